/- The faults of a pipe of the reference in one contract. No condition. -/
import Derived.Test.YtfneegndlkbgpaaPipRefInsA
import Derived.Test.YtfneegndlkbgpaaPipRefInsB
import Derived.Test.YtfneegndlkbgpaaPipRefInsC
namespace Go.Proofs.Ytfneegndlkbgpaa
open Go.RowKit
set_option linter.unusedVariables false

section
variable {w : World} {F : Nat → Prop} {b : Nat} {s : Pip}
theorem insertR_yes (h : PP w F 45 b s) (inn : Nat) (y : UInt8) (hw : inn ≤ s.l.length ∧ s.l.length < s.R) :
    Calls Try.prog 15 #[.pointer (some ⟨b, 0, none⟩), .int .i64 5, .int .i64 (inn : Int), bv y] w fun e w' => e = .returned (.bool true) ∧ Turn F 45 b ⟨s.R, s.l.take inn ++ y :: s.l.drop inn, s.cut, s.st⟩ w w' := by
  obtain ⟨A, c, hb, hm, hne, hF, hFA, hlt, ok⟩ := h
  rcases hm.2.2 with hA | ⟨g, off, cur, hA, _⟩
  · exact insertR_none hb hm hne hF hFA hlt ok inn y hw hA
  · by_cases hcg : c = inn
    · exact insertR_full hb hm hne hF hFA hlt ok inn y hw hA hcg
    · exact insertR_mid hb hm hne hF hFA hlt ok inn y hw hA hcg
set_option maxRecDepth 20000 in
set_option maxHeartbeats 1000000 in
theorem insertR_calls (h : PP w F 45 b s) (n : Int) (y : UInt8) : Calls Try.prog 15 #[.pointer (some ⟨b, 0, none⟩), .int .i64 5, .int .i64 n, bv y] w fun e w' => e = .returned (.bool (s.canInsert n)) ∧ Turn F 45 b (s.insert n y) w w' := by
  unfold Pip.insert
  by_cases hw : 0 ≤ n ∧ n ≤ s.l.length ∧ s.l.length < s.R
  · obtain ⟨j, rfl⟩ : ∃ j : Nat, n = (j : Int) := ⟨n.toNat, by omega⟩
    have e1 : s.canInsert (j : Int) = true := by unfold Pip.canInsert; exact decide_eq_true hw
    rw [e1]
    exact insertR_yes h j y ⟨by omega, hw.2.2⟩
  · have e1 : s.canInsert n = false := by unfold Pip.canInsert; exact decide_eq_false hw
    rw [e1]
    simp only [cond_false]
    have HR := Lib.hid (Turn.refl h)
    obtain ⟨A, c, hb, hm, hne, hF, hFA, hlt, ok⟩ := h
    obtain ⟨c0, c1, c2, c3⟩ := pcell hb
    clear hb hm hne hF hFA hlt ok c2 c3 e1
    unfold bv
    generalize s.l.length = m at *
    generalize s.R = R at *
    by_cases h0 : n < 0
    · have d0 : decide (n < 0) = true := decide_eq_true h0
      go_enter Try.func15, Try.ntmps15
      go_wp2_with fail
      go_quiet (fail)
      go_wp2
      go_ret
      exact ⟨rfl, HR.out.drewN _⟩
    · have d0 : decide (n < 0) = false := decide_eq_false h0
      by_cases h1 : (m : Int) < n
      · have d1 : decide ((m : Int) < n) = true := decide_eq_true h1
        go_enter Try.func15, Try.ntmps15
        go_wp2_with fail
        go_quiet (fail)
        go_wp2
        go_ret
        exact ⟨rfl, HR.out.drewN _⟩
      · have h2 : (R : Int) ≤ (m : Int) := by omega
        have d1 : decide ((m : Int) < n) = false := decide_eq_false h1
        have d2 : decide ((R : Int) ≤ (m : Int)) = true := decide_eq_true h2
        have d2' : decide (R ≤ m) = true := decide_eq_true (by omega)
        go_enter Try.func15, Try.ntmps15
        go_wp2_with fail
        go_quiet (fail)
        go_wp2
        go_ret
        exact ⟨rfl, HR.out.drewN _⟩
theorem faultR_calls (h : PP w F 45 b s) (kind n : Int) (y : UInt8) :
    Calls Try.prog 15 #[.pointer (some ⟨b, 0, none⟩), .int .i64 kind, .int .i64 n, bv y] w fun e w' => e = .returned (.bool (s.faultB kind n)) ∧ Turn F 45 b (s.fault kind n y) w w' := by
  unfold Pip.faultB Pip.fault
  by_cases h3 : kind = 3
  · subst h3
    exact eraseR_calls h n y
  by_cases h4 : kind = 4
  · subst h4
    exact writeR_calls h n y
  by_cases h5 : kind = 5
  · subst h5
    exact insertR_calls h n y
  have HR := Lib.hid (Turn.refl h)
  have H0 := Lib.hid h
  obtain ⟨A, c, hb, _⟩ := h
  obtain ⟨c0, c1, c2, c3⟩ := pcell hb
  have z2 := frozen_of_row w b 2 _ _ hb
  have z3 := frozen_of_row w b 3 _ _ hb
  clear hb c0 c1
  by_cases h0 : kind = 0
  · subst h0
    simp only [true_or, if_true]
    have FI := Lib.hid (flags_turn H0.out false false).2.2
    clear HR H0 h3 h4 h5
    unfold bv
    go_enter Try.func15, Try.ntmps15
    go_wp2
    go_ret
    exact ⟨rfl, FI.out⟩
  by_cases h1 : kind = 1
  · subst h1
    simp
    have FI := Lib.hid (flags_turn H0.out true false).1
    clear HR H0 h0 h3 h4 h5
    unfold bv
    go_enter Try.func15, Try.ntmps15
    go_wp2
    go_ret
    exact ⟨rfl, FI.out⟩
  by_cases h2 : kind = 2
  · subst h2
    simp
    have FI := Lib.hid (flags_turn H0.out false true).2.1
    clear HR H0 h0 h1 h3 h4 h5
    unfold bv
    go_enter Try.func15, Try.ntmps15
    go_wp2
    go_ret
    exact ⟨rfl, FI.out⟩
  · simp only [h0, h1, h2, h3, h4, h5, false_or, if_false]
    have b0 : (kind == 0) = false := by simpa using h0
    have b1 : (kind == 1) = false := by simpa using h1
    have b2 : (kind == 2) = false := by simpa using h2
    have b3 : (kind == 3) = false := by simpa using h3
    have b4 : (kind == 4) = false := by simpa using h4
    have b5 : (kind == 5) = false := by simpa using h5
    clear H0 h0 h1 h2 h3 h4 h5 c2 c3 z2 z3
    unfold bv at *
    go_enter Try.func15, Try.ntmps15
    go_wp2
    go_ret
    exact ⟨rfl, HR.out⟩
end
end Go.Proofs.Ytfneegndlkbgpaa

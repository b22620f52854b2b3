/- Fresh of a table of the program: what it answers, and what the table is then. No condition. -/
import Derived.Test.YtfhlogkdmjdpdaaTwnFresh
namespace Go.Proofs.Ytfhlogkdmjdpdaa
open Go.RowKit
set_option linter.unusedVariables false

section
variable {w : World} {b : Nat} {m : Tb} {n : Nat}
theorem pt_first (h1 : m.ok) (hn : n < 4294967296) (h : CT w b m.S true n (fun i => if i = n % 4096 then true else false)) : PT w b (m.first n) := by
  refine ⟨_, n, ⟨h1.size, hn⟩, hn, h, fun _ => ⟨rfl, fun d hd => ?_⟩, fun e => (by cases e)⟩
  have hd : d < m.S := hd
  have hs := h1.size
  show (if (n + 4294967296 - d) % 4096 = n % 4096 then true else false) = (d == 0)
  by_cases h0 : d = 0
  · subst h0
    rw [if_pos (by omega)]
    rfl
  · rw [if_neg (by omega)]
    simp [h0]
theorem pt_up {f f' : Nat → Bool} (h1 : m.ok) (hn : n < 4294967296) (hk : m.ahead n < 2147483648) (h0 : m.ahead n ≠ 0) (hf : ∀ d, d < m.S → f ((m.hi + 4294967296 - d) % 4096) = m.arr d) (ha : Adv f f' n (m.ahead n))
    (h : CT w b m.S true n (fun i => if i = n % 4096 then true else f' i)) : PT w b (m.up n) := by
  refine ⟨_, n, ⟨h1.size, hn⟩, hn, h, fun _ => ⟨rfl, fun d hd => ?_⟩, fun e => (by cases e)⟩
  have hd : d < m.S := hd
  have hs := h1.size
  have hh := h1.hi
  show (if (n + 4294967296 - d) % 4096 = n % 4096 then true else f' ((n + 4294967296 - d) % 4096)) = (if d = 0 then true else if d < m.ahead n then false else m.arr (d - m.ahead n))
  by_cases hd0 : d = 0
  · subst hd0
    rw [if_pos (by omega), if_pos rfl]
  · rw [if_neg (by omega), if_neg hd0, ha d (by omega)]
    by_cases hdk : d < m.ahead n
    · rw [if_pos hdk, if_pos hdk]
    · rw [if_neg hdk, if_neg hdk, ← hf (d - m.ahead n) (by omega)]
      congr 1
      unfold Tb.ahead at *
      omega
theorem pt_mark {f : Nat → Bool} (h1 : m.ok) (hn : n < 4294967296) (hb : m.behind n < m.S) (hf : ∀ d, d < m.S → f ((m.hi + 4294967296 - d) % 4096) = m.arr d)
    (h : CT w b m.S true m.hi (fun i => if i = n % 4096 then true else f i)) : PT w b (m.mark (m.behind n)) := by
  refine ⟨_, m.hi, ⟨h1.size, h1.hi⟩, h1.hi, h, fun _ => ⟨rfl, fun d hd => ?_⟩, fun e => (by cases e)⟩
  have hd : d < m.S := hd
  have hs := h1.size
  have hh := h1.hi
  show (if (m.hi + 4294967296 - d) % 4096 = n % 4096 then true else f ((m.hi + 4294967296 - d) % 4096)) = (if d = m.behind n then true else m.arr d)
  by_cases hdb : d = m.behind n
  · rw [if_pos hdb, if_pos (by unfold Tb.behind at *; omega)]
  · rw [if_neg hdb, if_neg (by unfold Tb.behind at *; omega), hf d hd]
theorem mark_at {f : Nat → Bool} (h1 : m.ok) (hn : n < 4294967296) (hb : m.behind n < m.S) (hf : ∀ d, d < m.S → f ((m.hi + 4294967296 - d) % 4096) = m.arr d) : f (n % 4096) = m.arr (m.behind n) := by
  rw [← hf _ hb]
  congr 1
  have hh := h1.hi
  unfold Tb.behind at *
  omega
theorem adv_zero {f f' : Nat → Bool} {d : Nat} (h : Adv f f' n d) (h0 : 0 < d) : f' (n % 4096) = false := by
  have := h 0 (by decide)
  rw [if_pos h0, show (n + 4294967296 - 0) % 4096 = n % 4096 by omega] at this
  exact this
theorem fresh_calls (h : PT w b m) (hn : n < 4294967296) : Calls Try.prog 11 #[.pointer (some ⟨b, 0, none⟩), .int .u32 (n : Int)] w fun e w' => e = .returned (.bool (m.isNew n)) ∧ PT w' b (m.got n) ∧ Only (fun k => k = b) w w' := by
  obtain ⟨f, hi, h1, h2, h3, h4, h5⟩ := h
  have c0 := (tcell h3).1
  have c1 := (tcell h3).2.1
  have c2 := (tcell h3).2.2.1
  obtain ⟨k, hk⟩ : ∃ k, (n + 4294967296 - hi) % 4294967296 = k := ⟨_, rfl⟩
  obtain ⟨r, hr⟩ : ∃ r, (hi + 4294967296 - n) % 4294967296 = r := ⟨_, rfl⟩
  have e1 : IntKind.u32.wrap ((n : Int) - (hi : Int)) = (k : Int) := by rw [IntKind.wrap_u32]; omega
  have e2 : IntKind.u32.wrap ((hi : Int) - (n : Int)) = (r : Int) := by rw [IntKind.wrap_u32]; omega
  have e1' : ((n : Int) - (hi : Int)) % 4294967296 = (k : Int) := by omega
  have e2' : ((hi : Int) - (n : Int)) % 4294967296 = (r : Int) := by omega
  cases hkn : m.kn with
  | false =>
    rw [h5 hkn, hkn] at h3
    rw [hkn] at c1
    have hnew : m.isNew n = true := by unfold Tb.isNew; rw [if_pos hkn]
    have hgot : m.got n = m.first n := by unfold Tb.got; rw [if_pos hkn]
    rw [hnew, hgot]
    have z1 := frozen_of_row w b 1 _ _ h3
    have X := Lib.hid (show CT w b m.S false hi (fun _ => false) from h3)
    have H1 := Lib.hid h1
    have HN := Lib.hid hn
    clear h1 h2 h3 h4 h5 hk hr hn hkn hnew hgot
    go_enter Try.func11, Try.ntmps11
    go_wp2_with fail
    go_quiet (fail)
    have z2 := frozen_of_row ((w.drewN nq).setCell ⟨b, 1, none⟩ (.bool true)) b 2 _ _ (tset_kn (w := w.drewN nq) X.out true)
    have C := enter_calls (w := ((w.drewN nq).setCell ⟨b, 1, none⟩ (.bool true)).setCell ⟨b, 2, none⟩ (.int .u32 (n : Int))) (b := b) (S := m.S) (kn := true) (hi := n) (f := fun _ => false) (tset_hi (tset_kn (w := w.drewN nq) X.out true) n) n
    go_wp2_with fail
    refine C.mono ?_
    rintro e w1 ⟨rfl, ht, on⟩
    have FIN := Lib.hid (show PT w1 b (m.first n) ∧ Only (fun k => k = b) w w1 from ⟨pt_first H1.out HN.out ht, (only_put (only_put ((Only.refl _ w).drewN nq) _ _) _ _).trans on (fun _ _ h => h)⟩)
    clear C ht on
    go_wp2
    go_ret
    exact ⟨rfl, FIN.out⟩
  | true =>
    obtain ⟨rfl, hf⟩ := h4 hkn
    rw [hkn] at h3 c1
    have ha : m.ahead n = k := hk
    have hb : m.behind n = r := hr
    have X := Lib.hid (show CT w b m.S true m.hi f from h3)
    have P := Lib.hid (show PT w b m from ⟨f, m.hi, h1, h2, by rw [hkn]; exact h3, fun _ => ⟨rfl, hf⟩, fun e => by rw [hkn] at e; cases e⟩)
    have H1 := Lib.hid h1
    have HN := Lib.hid hn
    have HF := Lib.hid hf
    have hkl : k < 4294967296 := by omega
    have hnk : ¬ m.kn = false := by rw [hkn]; decide
    by_cases hk0 : k = 0
    · have hnew : m.isNew n = false := by unfold Tb.isNew; rw [if_neg hnk, ha, if_pos hk0]
      have hgot : m.got n = m := by unfold Tb.got; rw [if_neg hnk, ha, if_pos hk0]
      rw [hnew, hgot]
      subst hk0
      clear h1 h2 h3 h4 h5 hk hr hn hkn hnew hgot hf ha hb hkl hnk X
      go_enter Try.func11, Try.ntmps11
      go_wp2_with fail
      go_quiet (fail)
      go_wp2
      go_ret
      exact ⟨rfl, P.out.drewN nq, (Only.refl _ w).drewN nq⟩
    · by_cases hk1 : k < 2147483648
      · have hnew : m.isNew n = true := by unfold Tb.isNew; rw [if_neg hnk, ha, if_neg hk0, if_pos hk1]
        have hgot : m.got n = m.up n := by unfold Tb.got; rw [if_neg hnk, ha, if_neg hk0, if_pos hk1]
        rw [hnew, hgot]
        have hsum : (m.hi + k) % 4294967296 = n := by have := h1.hi; omega
        have FACT := Lib.hid (And.intro ha (And.intro hk0 hk1))
        have HS := Lib.hid hsum
        have b0 : ((k : Int) == 0) = false := by simpa using hk0
        have b1 : decide ((k : Int) < 2147483648) = true := by simp; omega
        have b1' : decide (k < 2147483648) = true := by simp; omega
        have b0' : (k == 0) = false := by simpa using hk0
        clear h1 h2 h3 h4 h5 hk hr hn hkn hnew hgot hf ha hb hkl hnk hsum hk0 hk1
        go_enter Try.func11, Try.ntmps11
        go_wp2_with fail
        go_quiet (fail)
        have C := advance_calls (w := w.drewN nq) X.out H1.out.hi k FACT.out.2.2 (Nat.pos_of_ne_zero FACT.out.2.1)
        rw [HS.out] at C
        go_wp2_with fail
        refine C.mono ?_
        rintro e w1 ⟨rfl, f', ht, hA, on⟩
        have C2 := enter_calls ht n
        rw [adv_zero hA (Nat.pos_of_ne_zero FACT.out.2.1)] at C2
        have HA := Lib.hid (And.intro hA on)
        clear C ht hA on
        go_wp2_with fail
        refine C2.mono ?_
        rintro e w2 ⟨rfl, ht2, on2⟩
        have FIN := Lib.hid (show PT w2 b (m.up n) ∧ Only (fun k => k = b) w w2 from by
          obtain ⟨q1, q2, q3⟩ := FACT.out
          exact ⟨pt_up H1.out HN.out (by rw [q1]; exact q3) (by rw [q1]; exact q2) HF.out (by rw [q1]; exact HA.out.1) ht2, (((Only.refl _ w).drewN nq).trans HA.out.2 (fun _ _ h => h)).trans on2 (fun _ _ h => h)⟩)
        clear C2 ht2 on2 HA
        go_wp2
        go_ret
        exact ⟨rfl, FIN.out⟩
      · have b0 : ((k : Int) == 0) = false := by simpa using hk0
        have b1 : decide ((k : Int) < 2147483648) = false := by simp; omega
        have b1' : decide (k < 2147483648) = false := by simp; omega
        have b0' : (k == 0) = false := by simpa using hk0
        by_cases hb1 : m.S ≤ r
        · have hnew : m.isNew n = false := by unfold Tb.isNew; rw [if_neg hnk, ha, if_neg hk0, if_neg hk1, hb, if_pos hb1]
          have hgot : m.got n = m := by unfold Tb.got; rw [if_neg hnk, ha, if_neg hk0, if_neg hk1, hb, if_pos hb1]
          rw [hnew, hgot]
          have b2 : decide ((m.S : Int) ≤ (r : Int)) = true := by simp; omega
          have b2' : decide (m.S ≤ r) = true := by simp; omega
          clear h1 h2 h3 h4 h5 hk hr hn hkn hnew hgot hf ha hb hkl hnk X hk0 hk1 hb1
          go_enter Try.func11, Try.ntmps11
          go_wp2_with fail
          go_quiet (fail)
          go_wp2
          go_ret
          exact ⟨rfl, P.out.drewN nq, (Only.refl _ w).drewN nq⟩
        · have hnew : m.isNew n = !m.arr r := by unfold Tb.isNew; rw [if_neg hnk, ha, if_neg hk0, if_neg hk1, hb, if_neg hb1]
          have hgot : m.got n = m.mark r := by unfold Tb.got; rw [if_neg hnk, ha, if_neg hk0, if_neg hk1, hb, if_neg hb1]
          rw [hnew, hgot]
          have hlt : m.behind n < m.S := by rw [hb]; omega
          have hat := mark_at h1 hn hlt hf
          rw [hb] at hat
          have HL := Lib.hid (And.intro hlt hb)
          have HT := Lib.hid hat
          have b2 : decide ((m.S : Int) ≤ (r : Int)) = false := by simp; omega
          have b2' : decide (m.S ≤ r) = false := by simp; omega
          clear h1 h2 h3 h4 h5 hk hr hn hkn hnew hgot hf ha hb hkl hnk hk0 hk1 hb1 hlt hat
          go_enter Try.func11, Try.ntmps11
          go_wp2_with fail
          go_quiet (fail)
          have C := enter_calls (w := w.drewN nq) X.out n
          rw [HT.out] at C
          go_wp2_with fail
          refine C.mono ?_
          rintro e w1 ⟨rfl, ht, on⟩
          have FIN := Lib.hid (show PT w1 b (m.mark r) ∧ Only (fun k => k = b) w w1 from by
            have := pt_mark H1.out HN.out HL.out.1 HF.out ht
            rw [HL.out.2] at this
            exact ⟨this, ((Only.refl _ w).drewN nq).trans on (fun _ _ h => h)⟩)
          clear C ht on
          go_wp2
          go_ret
          exact ⟨rfl, FIN.out⟩
end
end Go.Proofs.Ytfhlogkdmjdpdaa

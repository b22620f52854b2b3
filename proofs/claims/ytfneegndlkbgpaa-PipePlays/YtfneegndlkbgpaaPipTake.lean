/- Take of a pipe of the program, and its faults. No condition. -/
import Derived.Test.YtfneegndlkbgpaaPipPut
namespace Go.Proofs.Ytfneegndlkbgpaa
open Go.RowKit
set_option linter.unusedVariables false

section
variable {w : World} {F : Nat → Prop} {b : Nat} {s : Pip}
/-- what was taken, in new memory -/
def Taken (l : List UInt8) (w : World) (e : Ending) (w' : World) : Prop := ∃ A c, e = .returned (.slice A l.length c) ∧ Own w' w.heap.size A c l
set_option maxHeartbeats 400000 in
theorem take_calls (h : PP w F 42 b s) (n : Int) :
    Calls Try.prog 12 #[.pointer (some ⟨b, 0, none⟩), .int .i64 n] w fun e w' => Taken (s.takeL n) w e w' ∧ PP w' F 42 b (s.take n) ∧ Only F w w' := by
  have H0 := Lib.hid h
  have ok := h.ok
  obtain ⟨A, c, hb, hm, _⟩ := h
  obtain ⟨c0, c1, c2, c3⟩ := pcell hb
  unfold Pip.takeL Pip.take
  cases hst : s.st
  · rw [hst] at c3
    simp only [cond_false]
    have er := Lib.hid (show (⟨s.R, s.l.drop (lim n s.l.length), s.cut, false⟩ : Pip) = s.erase n by unfold Pip.erase; rw [hst])
    have hk := lim_le n s.l.length
    have hcap := hm.1
    have hc63 : c ≤ 9223372036854775807 := by have := hm.2.1; unfold maxLen at this; omega
    have lc := fun (v : World) (hv : v.cell? ⟨b, 1, none⟩ = some (.slice A s.l.length c)) => limit_calls (w := v) (b := b) hv n
    have ht : (s.l.take (lim n s.l.length)).length = lim n s.l.length := by simp; omega
    have CL := cloneOwn_calls A c (s.l.take (lim n s.l.length)) w.drew (show Rd w.drew A _ from hm.rd.front _) (by have := ok.1; have := ok.2; omega)
    rw [ht] at CL
    have HT := Lib.hid ht
    clear ht
    generalize s.l.take (lim n s.l.length) = l1 at *
    generalize lim n s.l.length = k at *
    have hk0 : (0 : Int) ≤ (k : Int) := by omega
    have hkc : (k : Int) ≤ (c : Int) := by omega
    clear hb hm c0 c2 hst hcap
    generalize s.l.length = m at *
    go_enter Try.func12, Try.ntmps12
    go_wp2_with fail
    refine wp_region_still_tail 8 (by kernel_rfl) (by kernel_rfl) ?_
    simp only [List.take_succ_cons, List.take_zero, List.drop_succ_cons, List.drop_zero]
    repeat still_step
    still_call (lc _ c1)
    repeat still_step
    refine wpStill_nil ?_
    go_wp2_with fail
    refine CL.mono ?_
    rintro e w1 ⟨A1, c1', rfl, own, bel⟩
    have P1 : PP w1 F 42 b s := H0.out.only (w := w) (G := fun _ => False) (Only.of_below _ (show Below w.heap.size w w1 from ⟨bel.os, bel.tape, bel.output, bel.size, bel.block⟩)) (fun _ _ h => h)
    have RC := remove_calls P1 n
    have OB := Lib.hid (show Below w.heap.size w w1 from ⟨bel.os, bel.tape, bel.output, bel.size, bel.block⟩)
    have OW := Lib.hid own
    clear CL own bel c1 c3 lc P1
    go_wp2_with fail
    refine RC.mono ?_
    rintro e w2 ⟨rfl, hp, ho⟩
    have FI := Lib.hid (show Own w2 w.heap.size A1 c1' l1 ∧ PP w2 F 42 b ⟨s.R, s.l.drop k, s.cut, false⟩ ∧ Only F w w2 from ⟨OW.out.only ho (fun q hq hF => by have := (OW.out.blk_ge q hq).1; have := H0.out.lt q hF; have e : w.drew.heap.size = w.heap.size := rfl; omega), by rw [er.out]; exact hp, (Only.of_below F OB.out).trans ho (fun _ _ h => h)⟩)
    clear RC hp ho OB OW H0
    go_wp2
    go_ret
    exact ⟨⟨A1, c1', rfl, FI.out.1⟩, FI.out.2⟩
  · rw [hst] at c3
    simp only [cond_true]
    clear hb hm c0 c1 c2 hst
    go_enter Try.func12, Try.ntmps12
    go_wp2
    go_ret
    exact ⟨⟨none, 0, rfl, Own.nil _ _⟩, H0.out, Only.refl _ _⟩
theorem fault_calls (h : PP w F 42 b s) (kind n : Int) (y : UInt8) :
    Calls Try.prog 14 #[.pointer (some ⟨b, 0, none⟩), .int .i64 kind, .int .i64 n, bv y] w fun e w' => e = .returned (.bool (s.faultB kind n)) ∧ Turn F 42 b (s.fault kind n y) w w' := by
  have HR := Lib.hid (Turn.refl h)
  have H0 := Lib.hid h
  obtain ⟨A, c, hb, _⟩ := h
  obtain ⟨c0, c1, c2, c3⟩ := pcell hb
  have z2 := frozen_of_row w b 2 _ _ hb
  have z3 := frozen_of_row w b 3 _ _ hb
  clear hb c0 c1
  unfold Pip.faultB Pip.fault
  by_cases h0 : kind = 0
  · subst h0
    simp only [true_or, if_true]
    have FI := Lib.hid (flags_turn H0.out false false).2.2
    clear HR H0
    unfold bv
    go_enter Try.func14, Try.ntmps14
    go_wp2
    go_ret
    exact ⟨rfl, FI.out⟩
  by_cases h1 : kind = 1
  · subst h1
    simp
    have FI := Lib.hid (flags_turn H0.out true false).1
    clear HR H0 h0
    unfold bv
    go_enter Try.func14, Try.ntmps14
    go_wp2
    go_ret
    exact ⟨rfl, FI.out⟩
  by_cases h2 : kind = 2
  · subst h2
    simp
    have FI := Lib.hid (flags_turn H0.out false true).2.1
    clear HR H0 h0 h1
    unfold bv
    go_enter Try.func14, Try.ntmps14
    go_wp2
    go_ret
    exact ⟨rfl, FI.out⟩
  by_cases h3 : kind = 3
  · subst h3
    simp
    have RC := remove_calls H0.out n
    have LT := Lib.hid H0.out.lt
    clear HR H0 h0 h1 h2 c2 c3 z2 z3
    unfold bv
    go_enter Try.func14, Try.ntmps14
    go_wp2_with fail
    refine RC.mono ?_
    rintro e w2 ⟨rfl, hp, ho⟩
    have FI := Lib.hid (Turn.of_same hp ho LT.out)
    clear hp ho RC LT
    go_wp2
    go_ret
    exact ⟨rfl, FI.out⟩
  by_cases h4 : kind = 4
  · subst h4
    simp
    have RC := write_calls H0.out n y
    clear HR H0 h0 h1 h2 h3 c2 c3 z2 z3
    unfold bv at *
    generalize s.canWrite n = r at *
    go_enter Try.func14, Try.ntmps14
    go_wp2_with fail
    refine RC.mono ?_
    rintro e w2 ⟨rfl, hp⟩
    have FI := Lib.hid hp
    clear hp RC
    go_wp2
    go_ret
    exact ⟨rfl, FI.out⟩
  by_cases h5 : kind = 5
  · subst h5
    simp
    have RC := insert_calls H0.out n y
    clear HR H0 h0 h1 h2 h3 h4 c2 c3 z2 z3
    unfold bv at *
    generalize s.canInsert n = r at *
    go_enter Try.func14, Try.ntmps14
    go_wp2_with fail
    refine RC.mono ?_
    rintro e w2 ⟨rfl, hp⟩
    have FI := Lib.hid hp
    clear hp RC
    go_wp2
    go_ret
    exact ⟨rfl, FI.out⟩
  · simp only [h0, h1, h2, h3, h4, h5, false_or, if_false]
    have b0 : (kind == 0) = false := by simpa using h0
    have b1 : (kind == 1) = false := by simpa using h1
    have b2 : (kind == 2) = false := by simpa using h2
    have b3 : (kind == 3) = false := by simpa using h3
    have b4 : (kind == 4) = false := by simpa using h4
    have b5 : (kind == 5) = false := by simpa using h5
    clear H0 h0 h1 h2 h3 h4 h5 c2 c3 z2 z3
    unfold bv at *
    go_enter Try.func14, Try.ntmps14
    go_wp2
    go_ret
    exact ⟨rfl, HR.out⟩
end
end Go.Proofs.Ytfneegndlkbgpaa

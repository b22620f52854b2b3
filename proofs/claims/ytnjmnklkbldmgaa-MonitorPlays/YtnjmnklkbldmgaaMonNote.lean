/- Note of a monitor of the program. Condition: a run of good events is below what a tally can hold. -/
import Derived.Test.YtnjmnklkbldmgaaMonJudge
import Derived.Test.YtnjmnklkbldmgaaMonPass
namespace Go.Proofs.Ytnjmnklkbldmgaa
open Go.RowKit
set_option linter.unusedVariables false
attribute [local go_sem] store_complex

/-- the window's Note, in a monitor -/
theorem hear_calls {w : World} {b : Nat} {m : Mo} (h : PM w b m) (ok : Bool) : Calls Try.prog 24 #[.pointer (some ⟨b, 3, none⟩), .bool ok] w fun e w' =>
    e = .returned (.tuple #[]) ∧ XW w' b m.ar 16 (rep 16 (nx 16 m.L ok)) ∧ Only (fun k => k = b) w w' := by
  obtain ⟨old, q, h1, h2⟩ := rep_step (N := 16) (by decide) h.2.short ok
  have hp := h.1
  rw [h1] at hp
  refine (xnote_calls hp (by decide) ok).mono ?_
  rintro e v' ⟨rfl, h3, on⟩
  rw [h2] at h3
  exact ⟨rfl, h3, on⟩
set_option maxRecDepth 20000 in
set_option maxHeartbeats 400000 in
theorem mnote_bad {w : World} {b : Nat} {m : Mo} (h : PM w b m) : Calls Try.prog 11 #[.pointer (some ⟨b, 0, none⟩), .bool false] w fun e w' =>
    e = .returned (.int .i64 (m.note false).st) ∧ PM w' b (m.note false) ∧ Only (fun k => k = b) w w' := by
  have hn := hear_calls h false
  have hok := Lib.hid (Mo.hear_ok h.2 false (fun e => by cases e))
  clear h
  go_enter Try.func11, Try.ntmps11
  go_wp2_with fail
  refine hn.mono ?_
  rintro e w1 ⟨rfl, X1, o1⟩
  clear hn
  have z4 := X1.frozen 1007
  have z3 := X1.frozen 1006
  obtain ⟨_, _, _, d3, d4⟩ := X1.round
  have X2 := (X1.setP1 (.int .i64 0)).setP0 (cx 0 0)
  have o2 := only_put (only_put o1 1007 (.int .i64 0)) 1006 (cx 0 0)
  rw [cx_zero] at X2 o2
  have P2 := Lib.hid (show PM ((w1.setCell ⟨b, 1007, none⟩ (.int .i64 0)).setCell ⟨b, 1006, none⟩ (.complex .f64 0 0)) b (m.hear false) from ⟨by
    show XW _ b (Mo.ar _) 16 _
    unfold Mo.ar Mo.hear
    simp only [Bool.false_eq_true, if_false]
    rw [cx_zero]
    exact X2, hok.out⟩)
  have O2 := Lib.hid o2
  clear X1 o1 X2 o2 hok
  go_wp2_with fail
  refine (judge_calls P2.out).mono ?_
  rintro e w3 ⟨rfl, P3, o3⟩
  have c2 := P3.cells.2.2.1
  have FIN := Lib.hid (show PM w3 b (m.note false) ∧ Only (fun k => k = b) w w3 from ⟨P3, O2.out.trans o3 (fun _ _ h => h)⟩)
  clear P2 O2 P3 o3 d3 d4 z3 z4
  go_wp2
  go_ret
  exact ⟨rfl, FIN.out⟩
set_option maxRecDepth 20000 in
set_option maxHeartbeats 400000 in
theorem mnote_good {w : World} {b : Nat} {m : Mo} (h : PM w b m) (hr : m.run < 4294967295) : Calls Try.prog 11 #[.pointer (some ⟨b, 0, none⟩), .bool true] w fun e w' =>
    e = .returned (.int .i64 (m.note true).st) ∧ PM w' b (m.note true) ∧ Only (fun k => k = b) w w' := by
  have hn := hear_calls h true
  have hok := Lib.hid (Mo.hear_ok h.2 true (fun e => hr))
  have hrun := h.2.run
  have co : ∀ w, Calls Try.prog 19 #[.int .i64 1, .int .i64 0] w fun e w' => e = .returned (cx 1 0) ∧ w' = w := fun w => of_calls 1 0 w
  have ca := fun w => add_calls (a := m.run) (b := 0) (c := 1) (d := 0) hrun (by decide) (by decide) (by decide) w
  rw [cl_of (by omega) (by omega), show cl (0 + 0) = 0 from rfl] at ca
  clear h hrun
  go_enter Try.func11, Try.ntmps11
  go_wp2_with fail
  refine hn.mono ?_
  rintro e w1 ⟨rfl, X1, o1⟩
  clear hn
  have z4 := X1.frozen 1007
  obtain ⟨_, _, _, _, d4⟩ := X1.round
  obtain ⟨w2, hw2⟩ : ∃ w2, w1.setCell ⟨b, 1007, none⟩ (.int .i64 0) = w2 := ⟨_, rfl⟩
  have X2 := X1.setP1 (.int .i64 0)
  have o2 := only_put o1 1007 (.int .i64 0)
  rw [hw2] at X2 o2
  have z3 := X2.frozen 1006
  obtain ⟨_, _, _, d3, _⟩ := X2.round
  have c3 : w2.cell? ⟨b, 1006, none⟩ = some (cx m.run 0) := d3
  clear d3
  have HW := Lib.hid hw2
  have P3 := Lib.hid (show PM ((w2.setCell ⟨b, 1006, none⟩ (cx (m.run + 1) 0)).drew) b (m.hear true) ∧ Only (fun k => k = b) w ((w2.setCell ⟨b, 1006, none⟩ (cx (m.run + 1) 0)).drew) from ⟨⟨by
    show XW (w2.setCell ⟨b, 1006, none⟩ (cx (m.run + 1) 0)) b (Mo.ar _) 16 _
    unfold Mo.ar Mo.hear
    exact X2.setP0 _, hok.out⟩, (only_put o2 _ _).drew⟩)
  clear X1 o1 X2 o2 hok hw2 hr
  go_upto_region 4 with (fail)
  rw [HW.out]
  unfold cx at ca c3 P3 co
  generalize fl m.run = x0 at *
  generalize fl (m.run + 1) = x1 at *
  generalize fl 0 = x2 at *
  generalize fl 1 = x3 at *
  refine wp_region_still_tail 9 (by kernel_rfl) (by kernel_rfl) ?_
  simp only [List.take_succ_cons, List.take_zero, List.drop_succ_cons, List.drop_zero]
  repeat still_step
  still_call (co _)
  repeat still_step
  still_call (ca _)
  repeat still_step
  refine wpStill_nil ?_
  go_wp2_with fail
  refine (judge_calls P3.out.1).mono ?_
  rintro e w3 ⟨rfl, P4, o3⟩
  have c2 := P4.cells.2.2.1
  have FIN := Lib.hid (show PM w3 b (m.note true) ∧ Only (fun k => k = b) w w3 from ⟨P4, P3.out.2.trans o3 (fun _ _ h => h)⟩)
  clear P3 P4 o3 d4 z3 z4 ca co c3 HW
  go_wp2
  go_ret
  exact ⟨rfl, FIN.out⟩
theorem mnote_calls {w : World} {b : Nat} {m : Mo} (h : PM w b m) (ok : Bool) (hr : ok = true → m.run < 4294967295) : Calls Try.prog 11 #[.pointer (some ⟨b, 0, none⟩), .bool ok] w fun e w' =>
    e = .returned (.int .i64 (m.note ok).st) ∧ PM w' b (m.note ok) ∧ Only (fun k => k = b) w w' := by
  cases ok
  · exact mnote_bad h
  · exact mnote_good h (hr rfl)
end Go.Proofs.Ytnjmnklkbldmgaa

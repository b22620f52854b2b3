/- Pass of a monitor of the program. No condition. -/
import Derived.Test.YtnjmnklkbldmgaaMonMem
namespace Go.Proofs.Ytnjmnklkbldmgaa
open Go.RowKit
set_option linter.unusedVariables false
attribute [local go_sem] store_complex

set_option maxRecDepth 20000 in
set_option maxHeartbeats 400000 in
theorem mpass_calls {w : World} {b : Nat} {m : Mo} (h : PM w b m) (n : Int) : Calls Try.prog 12 #[.pointer (some ⟨b, 0, none⟩), .int .i64 n] w fun e w' =>
    e = .returned (.int .i64 (m.pass n).st) ∧ PM w' b (m.pass n) ∧ Only (fun k => k = b) w w' := by
  have lc := fun w => mlimit_calls n 0 1073741824 (by decide) w
  have hok := Lib.hid (Mo.pass_ok h.2 n)
  have hq := h.2.quiet
  obtain ⟨c0, c1, c2, c3, c4⟩ := h.cells
  have z4 := h.1.frozen 1007
  have X := Lib.hid h.1
  clear h
  obtain ⟨m', hm'⟩ : ∃ m', m.pass n = m' := ⟨_, rfl⟩
  rw [hm'] at hok ⊢
  unfold Mo.pass at hm'
  have hx : 0 ≤ min (max n 0) 1073741824 ∧ min (max n 0) 1073741824 ≤ 1073741824 := by omega
  generalize min (max n 0) 1073741824 = x at *
  obtain ⟨q, hqe⟩ : ∃ q, min (m.quiet + x) 1073741824 = q := ⟨_, rfl⟩
  rw [hqe] at hm'
  have HM := Lib.hid hm'
  clear hm'
  have HQ := Lib.hid hqe
  have hq1 : 0 ≤ m.quiet + x ∧ m.quiet + x ≤ 2147483648 := by omega
  obtain ⟨hq2, hx2⟩ := hx
  clear hx2 hq2
  go_enter Try.func12, Try.ntmps12
  go_wp2
  refine wp_region_still_tail 11 (by kernel_rfl) (by kernel_rfl) ?_
  simp only [List.take_succ_cons, List.take_zero, List.drop_succ_cons, List.drop_zero]
  repeat still_step
  still_call (lc _)
  repeat still_step
  refine wpStill_nil ?_
  go_upto_region 2 with (fail)
  generalize hw1 : World.drew (World.setCell _ _ _) = w1
  obtain ⟨X1, o1⟩ : XW w1 b { m.ar with p1 := .int .i64 q } 16 (rep 16 m.L) ∧ Only (fun k => k = b) w w1 := by
    subst hw1
    rw [show (if 1073741824 < m.quiet + x then 1073741824 else m.quiet + x) = q by rw [← HQ.out]; split <;> omega]
    exact ⟨XW.setP1 X.out _, (only_put (Only.refl _ w) _ _).drew⟩
  clear hw1 lc c0 c1 c2 c3 c4 z4 hqe
  obtain ⟨_, d1, d2, _, d4⟩ := X1.round
  have z2 := X1.frozen 2
  have z3 := X1.frozen 1006
  have c1 : w1.cell? ⟨b, 1, none⟩ = some (.int .i64 m.silent) := d1
  have c2 : w1.cell? ⟨b, 2, none⟩ = some (.int .i64 m.st) := d2
  have c4 : w1.cell? ⟨b, 1007, none⟩ = some (.int .i64 q) := d4
  clear d1 d2 d4
  by_cases hs : m.silent ≤ q
  · obtain rfl : { m with quiet := q, st := 2, run := 0 } = m' := by rw [← HM.out, if_pos hs]
    have FIN := Lib.hid (show ∀ j, PM (((w1.drewN j).setCell ⟨b, 2, none⟩ (.int .i64 2)).setCell ⟨b, 1006, none⟩ (.complex .f64 0 0)) b { m with quiet := q, st := 2, run := 0 } ∧ Only (fun k => k = b) w (((w1.drewN j).setCell ⟨b, 2, none⟩ (.int .i64 2)).setCell ⟨b, 1006, none⟩ (.complex .f64 0 0)) from fun j => by
      refine ⟨⟨?_, hok.out⟩, only_put (only_put (o1.drewN j) _ _) _ _⟩
      have := (XW.setA2 (w := w1.drewN j) X1 (.int .i64 2)).setP0 (cx 0 0)
      rw [cx_zero] at this
      show XW _ b (Mo.ar _) 16 _
      unfold Mo.ar
      rw [cx_zero]
      exact this)
    clear X1 o1 hok HM
    go_quiet (fail)
    go_wp2
    all_goals
      go_ret
      exact ⟨rfl, FIN.out _⟩
  · obtain rfl : { m with quiet := q } = m' := by rw [← HM.out, if_neg hs]
    have FIN := Lib.hid (show ∀ j, PM (w1.drewN j) b { m with quiet := q } ∧ Only (fun k => k = b) w (w1.drewN j) from fun j =>
      ⟨⟨X1, hok.out⟩, o1.drewN j⟩)
    clear X1 o1 hok HM
    go_quiet (fail)
    go_wp2
    all_goals
      go_ret
      exact ⟨rfl, FIN.out _⟩
end Go.Proofs.Ytnjmnklkbldmgaa

/- A monitor of the reference in memory: NewMonitor, State, Sum, Pass. No condition. -/
import Derived.Test.YtnjmnklkbldmgaaMonMem
import Derived.Laws.BitsLemmas
namespace Go.Proofs.Ytnjmnklkbldmgaa
open Go.RowKit
set_option linter.unusedVariables false

/-- the cells of a monitor of the reference, its window at p -/
def rcells (m : Mo) (p : Nat) : Array Value := #[.int .i64 m.bad, .int .i64 m.good, .int .i64 m.silent, .pointer (some ⟨p, 0, none⟩), .int .i64 m.run, .int .i64 m.quiet, .int .i64 m.st]
/-- The block b holds the monitor m of the reference, its window lies at p, its row from base on. -/
structure RM (w : World) (base p b : Nat) (m : Mo) : Prop where
  ok : m.ok
  cells : w.heap[b]? = some (.cells (rcells m p) 54 (0, 0))
  win : RW w base p 16 m.L
  low : b < base
  apart : p ≠ b
section
variable {w : World} {base p b : Nat} {m : Mo}
theorem RM.only {F : Nat → Prop} {w' : World} (h : RM w base p b m) (k : Only F w w') (hF : ∀ k, F k → k < base) (hp : ¬ F p) (hb : ¬ F b) : RM w' base p b m :=
  ⟨h.ok, (k.block b (lt_of_block h.cells) hb).trans h.cells, h.win.only k hF hp, h.low, h.apart⟩
theorem RM.drewN (h : RM w base p b m) (j : Nat) : RM (w.drewN j) base p b m := ⟨h.ok, h.cells, h.win, h.low, h.apart⟩
theorem rcell {w : World} {p b : Nat} {m : Mo} {t : TypeId} (h : w.heap[b]? = some (.cells (rcells m p) t (0, 0))) :
    w.cell? ⟨b, 0, none⟩ = some (.int .i64 m.bad) ∧ w.cell? ⟨b, 1, none⟩ = some (.int .i64 m.good) ∧ w.cell? ⟨b, 2, none⟩ = some (.int .i64 m.silent) ∧ w.cell? ⟨b, 3, none⟩ = some (.pointer (some ⟨p, 0, none⟩)) ∧
      w.cell? ⟨b, 4, none⟩ = some (.int .i64 m.run) ∧ w.cell? ⟨b, 5, none⟩ = some (.int .i64 m.quiet) ∧ w.cell? ⟨b, 6, none⟩ = some (.int .i64 m.st) := by
  refine ⟨?_, ?_, ?_, ?_, ?_, ?_, ?_⟩ <;> rw [cell_of_row w b _ _ _ (0, 0) h] <;> rfl
theorem rset_run {t : TypeId} (h : w.heap[b]? = some (.cells (rcells m p) t (0, 0))) (x : Int) : (w.setCell ⟨b, 4, none⟩ (.int .i64 x)).heap[b]? = some (.cells (rcells { m with run := x } p) t (0, 0)) := heap_setCell_same w b 4 _ t _ h
theorem rset_quiet {t : TypeId} (h : w.heap[b]? = some (.cells (rcells m p) t (0, 0))) (x : Int) : (w.setCell ⟨b, 5, none⟩ (.int .i64 x)).heap[b]? = some (.cells (rcells { m with quiet := x } p) t (0, 0)) := heap_setCell_same w b 5 _ t _ h
theorem rset_st {t : TypeId} (h : w.heap[b]? = some (.cells (rcells m p) t (0, 0))) (x : Int) : (w.setCell ⟨b, 6, none⟩ (.int .i64 x)).heap[b]? = some (.cells (rcells { m with st := x } p) t (0, 0)) := heap_setCell_same w b 6 _ t _ h
theorem rstate_calls (h : RM w base p b m) : Calls Try.prog 16 #[.pointer (some ⟨b, 0, none⟩)] w fun e w' => e = .returned (.int .i64 m.st) ∧ w' = w := by
  obtain ⟨_, _, _, _, _, _, c6⟩ := rcell h.cells
  clear h
  go_enter Try.func16, Try.ntmps16
  go_wp2
  go_ret
  exact ⟨rfl, rfl⟩
theorem rsum_calls (h : RM w base p b m) : Calls Try.prog 18 #[.pointer (some ⟨b, 0, none⟩)] w fun e w' => e = .returned (cx (gl m.L) (bl m.L)) ∧ ∃ j, w' = w.drewN j := by
  obtain ⟨_, _, _, c3, _⟩ := rcell h.cells
  have hs := refSum_calls h.win (by decide)
  clear h
  go_enter Try.func18, Try.ntmps18
  go_wp2_with fail
  refine hs.mono ?_
  rintro e w' ⟨rfl, j, rfl⟩
  go_wp2
  go_ret
  exact ⟨rfl, j, rfl⟩
end
theorem rnew_calls (bad good silent : Int) (w : World) : Calls Try.prog 10 #[.int .i64 bad, .int .i64 good, .int .i64 silent] w fun e w' =>
    e = .returned (.pointer (some ⟨w.heap.size + 1, 0, none⟩)) ∧ RM w' (w.heap.size + 2) w.heap.size (w.heap.size + 1) (mnew bad good silent) ∧ Below w.heap.size w w' ∧ w'.heap.size = w.heap.size + 2 := by
  have l1 := fun w => cut_calls bad 1 16 (by decide) w
  have l2 := fun w => cut_calls good 1 16 (by decide) w
  have l3 := fun w => cut_calls silent 1 1073741824 (by decide) w
  have l5 := newWindow_calls 16 w
  obtain ⟨w1, hw1⟩ : ∃ w1, w.alloc (.cells (vcells (siz 16) none 0 0) 59) = w1 := ⟨_, rfl⟩
  rw [hw1] at l5
  have hs1 : w1.heap.size = w.heap.size + 1 := by rw [← hw1]; simp
  have hb1 : w1.heap[w.heap.size]? = some (.cells (vcells 16 none 0 0) 59 (0, 0)) := by rw [← hw1]; exact heap_alloc_new w _
  have hB1 : Below w.heap.size w w1 := by rw [← hw1]; exact (Below.refl _ _).alloc (Nat.le_refl _) _
  have FIN := Lib.hid (show RM (w1.alloc (.cells (rcells (mnew bad good silent) w.heap.size) 54)) (w.heap.size + 2) w.heap.size (w.heap.size + 1) (mnew bad good silent) ∧ Below w.heap.size w (w1.alloc (.cells (rcells (mnew bad good silent) w.heap.size) 54)) ∧ (w1.alloc (.cells (rcells (mnew bad good silent) w.heap.size) 54)).heap.size = w.heap.size + 2 from by
    refine ⟨⟨mnew_ok _ _ _, ?_, ?_, by omega, by omega⟩, hB1.alloc (by omega) _, by simp [hs1]⟩
    · rw [← hs1]
      exact heap_alloc_new w1 _
    · refine ⟨none, 0, ?_, RdB.nil _ _, fun _ => ⟨rfl, rfl⟩, Nat.zero_le _, by omega, fun k hk => by cases hk⟩
      rw [Below.heap_alloc _ _ _ (by omega)]
      exact hb1)
  have HS := Lib.hid hs1
  clear hs1 hb1 hB1 hw1
  unfold rcells mnew at FIN
  unfold mnew
  generalize min (max good 1) 16 = G at *
  generalize min (max bad 1) 16 = B at *
  generalize min (max silent 1) 1073741824 = S at *
  go_enter Try.func10, Try.ntmps10
  go_wp2_with fail
  refine (l1 w).mono ?_
  rintro e w' ⟨rfl, rfl⟩
  go_wp2_with fail
  refine (l2 _).mono ?_
  rintro e w' ⟨rfl, rfl⟩
  go_wp2_with fail
  refine (l3 _).mono ?_
  rintro e w' ⟨rfl, rfl⟩
  go_wp2_with fail
  refine l5.mono ?_
  rintro e w' ⟨rfl, rfl⟩
  clear l1 l2 l3 l5
  go_wp2
  go_ret
  exact ⟨by rw [HS.out]; rfl, FIN.out⟩
set_option maxRecDepth 20000 in
set_option maxHeartbeats 400000 in
theorem rpass_calls {w : World} {base p b : Nat} {m : Mo} (h : RM w base p b m) (n : Int) : Calls Try.prog 13 #[.pointer (some ⟨b, 0, none⟩), .int .i64 n] w fun e w' =>
    e = .returned (.int .i64 (m.pass n).st) ∧ RM w' base p b (m.pass n) ∧ Only (fun k => k = b) w w' := by
  have lc := fun w => cut_calls n 0 1073741824 (by decide) w
  have hok := Lib.hid (Mo.pass_ok h.ok n)
  have hq := h.ok.quiet
  obtain ⟨c0, c1, c2, c3, c4, c5, c6⟩ := rcell h.cells
  have z5 := frozen_of_row w b 5 _ _ h.cells
  have X := Lib.hid h
  clear h
  obtain ⟨m', hm'⟩ : ∃ m', m.pass n = m' := ⟨_, rfl⟩
  rw [hm'] at hok ⊢
  unfold Mo.pass at hm'
  have hx : 0 ≤ min (max n 0) 1073741824 ∧ min (max n 0) 1073741824 ≤ 1073741824 := by omega
  generalize min (max n 0) 1073741824 = x at *
  obtain ⟨q, hqe⟩ : ∃ q, min (m.quiet + x) 1073741824 = q := ⟨_, rfl⟩
  rw [hqe] at hm'
  have HM := Lib.hid hm'
  clear hm'
  have lq := fun w => cut_calls (m.quiet + x) 0 1073741824 (by decide) w
  rw [show min (max (m.quiet + x) 0) 1073741824 = q by rw [← hqe]; omega] at lq
  have hwr : IntKind.i64.wrap (m.quiet + x) = m.quiet + x := by rw [IntKind.wrap_i64]; omega
  rw [← hwr] at lq
  clear hwr
  have hq1 : 0 ≤ m.quiet + x ∧ m.quiet + x ≤ 2147483648 := by omega
  have X1 := Lib.hid (show RM (w.setCell ⟨b, 5, none⟩ (.int .i64 q)).drew base p b { m with quiet := q } ∧ Only (fun k => k = b) w (w.setCell ⟨b, 5, none⟩ (.int .i64 q)).drew from ⟨⟨⟨X.out.ok.bad, X.out.ok.good, X.out.ok.silent, X.out.ok.st, X.out.ok.short, X.out.ok.run, by show 0 ≤ q ∧ q ≤ _; omega⟩,
    rset_quiet X.out.cells q, RW.only (w' := (w.setCell ⟨b, 5, none⟩ (.int .i64 q)).drew) X.out.win (only_put (Only.refl (fun k => k = b) w) _ _).drew (fun k hk => by have := X.out.low; omega) X.out.apart, X.out.low, X.out.apart⟩, (only_put (Only.refl _ w) _ _).drew⟩)
  clear hqe hx
  go_enter Try.func13, Try.ntmps13
  go_wp2
  refine wp_region_still_tail 11 (by kernel_rfl) (by kernel_rfl) ?_
  simp only [List.take_succ_cons, List.take_zero, List.drop_succ_cons, List.drop_zero]
  repeat still_step
  still_call (lc _)
  repeat still_step
  still_call (lq _)
  repeat still_step
  refine wpStill_nil ?_
  go_upto_region 2 with (fail)
  obtain ⟨w1, hw1⟩ : ∃ w1, (w.setCell ⟨b, 5, none⟩ (.int .i64 q)).drew = w1 := ⟨_, rfl⟩
  rw [hw1] at X1 ⊢
  clear hw1 lc lq c0 c1 c2 c3 c4 c5 c6 z5
  obtain ⟨_, _, c2, _, c4, c5, c6⟩ := rcell X1.out.1.cells
  have z6 := frozen_of_row w1 b 6 _ _ X1.out.1.cells
  have z4 := frozen_of_row w1 b 4 _ _ X1.out.1.cells
  by_cases hs : m.silent ≤ q
  · obtain rfl : { m with quiet := q, st := 2, run := 0 } = m' := by rw [← HM.out, if_pos hs]
    have FIN := Lib.hid (show ∀ j, RM (((w1.drewN j).setCell ⟨b, 6, none⟩ (.int .i64 2)).setCell ⟨b, 4, none⟩ (.int .i64 0)) base p b { m with quiet := q, st := 2, run := 0 } ∧ Only (fun k => k = b) w (((w1.drewN j).setCell ⟨b, 6, none⟩ (.int .i64 2)).setCell ⟨b, 4, none⟩ (.int .i64 0)) from fun j => by
      have on : Only (fun k => k = b) (w1.drewN j) (((w1.drewN j).setCell ⟨b, 6, none⟩ (.int .i64 2)).setCell ⟨b, 4, none⟩ (.int .i64 0)) := only_put (only_put (Only.refl _ _) _ _) _ _
      refine ⟨⟨hok.out, rset_run (rset_st (w := w1.drewN j) X1.out.1.cells 2) 0, RW.only (w := w1.drewN j) X1.out.1.win on (fun k hk => by have := X1.out.1.low; omega) X1.out.1.apart, X1.out.1.low, X1.out.1.apart⟩, only_put (only_put (X1.out.2.drewN j) _ _) _ _⟩)
    clear X1 hok HM
    go_quiet (fail)
    go_wp2
    all_goals
      go_ret
      exact ⟨rfl, FIN.out _⟩
  · obtain rfl : { m with quiet := q } = m' := by rw [← HM.out, if_neg hs]
    have FIN := Lib.hid (show ∀ j, RM (w1.drewN j) base p b { m with quiet := q } ∧ Only (fun k => k = b) w (w1.drewN j) from fun j => ⟨X1.out.1.drewN j, X1.out.2.drewN j⟩)
    clear X1 hok HM
    go_quiet (fail)
    go_wp2
    all_goals
      go_ret
      exact ⟨rfl, FIN.out _⟩
end Go.Proofs.Ytnjmnklkbldmgaa

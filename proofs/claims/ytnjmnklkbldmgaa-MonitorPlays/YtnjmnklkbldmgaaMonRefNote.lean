/- Note of a monitor of the reference. Condition: a run of good events is below what a tally can hold. -/
import Derived.Test.YtnjmnklkbldmgaaMonRef
namespace Go.Proofs.Ytnjmnklkbldmgaa
open Go.RowKit
set_option linter.unusedVariables false

theorem only_two {b p : Nat} {w w1 : World} (o : Only (fun k => k = b ∨ k = p) w w1) (j : Nat) (v : Value) : Only (fun k => k = b ∨ k = p) w (w1.setCell ⟨b, j, none⟩ v) := o.setCell (p := ⟨b, j, none⟩) (.inl (.inl rfl)) v
/-- a store into the monitor's own block -/
theorem RM.put {w : World} {base p b : Nat} {m m2 : Mo} (h : RM w base p b m) (hok : m2.ok) (hL : m2.L = m.L) (j : Nat) (v : Value) (hc : (w.setCell ⟨b, j, none⟩ v).heap[b]? = some (.cells (rcells m2 p) 54 (0, 0))) : RM (w.setCell ⟨b, j, none⟩ v) base p b m2 :=
  ⟨hok, hc, by rw [hL]; exact h.win.only (only_put (Only.refl (fun k => k = b) w) j v) (fun k hk => by have := h.low; omega) h.apart, h.low, h.apart⟩
theorem half_le {B n : Int} (hB : 1 ≤ B) : (B + 1).tdiv 2 ≤ n ↔ B ≤ 2 * n := by
  rw [Int.tdiv_eq_ediv_of_nonneg (by omega)]
  omega
section
variable {w : World} {base p b : Nat} {m : Mo}
set_option maxRecDepth 20000 in
set_option maxHeartbeats 400000 in
theorem rnote_ga (h : RM w base p b m) (hr : m.run < 4294967295) (hbase : base ≤ w.heap.size) (m1 : Mo) (hm1 : m1 = m.hear true) (g0 : m1.st = 0) (g1 : m1.bad ≤ bl m1.L) : Calls Try.prog 14 #[.pointer (some ⟨b, 0, none⟩), .bool true] w fun e w' =>
    e = .returned (.int .i64 { m1 with st := 2 }.st) ∧ RM w' base p b { m1 with st := 2 } ∧ Only (fun k => k = b ∨ k = p) w w' := by
  have hn := refNote_calls h.win (by decide) hbase true
  have hok : m1.ok := by rw [hm1]; exact Mo.hear_ok h.ok true (fun _ => hr)
  have h1 := hok.bad
  have h4 := hok.st
  have hrun := h.ok.run
  obtain ⟨c0, c1, c2, c3, c4, c5, c6⟩ := rcell h.cells
  have hq1 : 0 ≤ m.run + 1 ∧ m.run + 1 ≤ 4294967295 := by omega
  have STEP := Lib.hid (show ∀ v, RW v base p 16 (nx 16 m.L true) → Only (fun k => k = p) w v → (v.cell? ⟨b, 4, none⟩ = some (.int .i64 m.run) ∧ v.cell? ⟨b, 5, none⟩ = some (.int .i64 m.quiet) ∧ v.cell? ⟨b, 3, none⟩ = some (.pointer (some ⟨p, 0, none⟩)) ∧ (∀ j, v.frozen? ⟨b, j, none⟩ = false)) ∧
      RM ((v.setCell ⟨b, 5, none⟩ (.int .i64 0)).setCell ⟨b, 4, none⟩ (.int .i64 (m.run + 1))) base p b m1 ∧ Only (fun k => k = b ∨ k = p) w ((v.setCell ⟨b, 5, none⟩ (.int .i64 0)).setCell ⟨b, 4, none⟩ (.int .i64 (m.run + 1))) from fun v hv on => by
    have hcv : v.heap[b]? = some (.cells (rcells m p) 54 (0, 0)) := (on.block b (lt_of_block h.cells) (fun e => h.apart e.symm)).trans h.cells
    obtain ⟨_, _, _, k3, k4, k5, _⟩ := rcell hcv
    have o2 := only_put (only_put (Only.refl (fun k => k = b) v) 5 (.int .i64 0)) 4 (.int .i64 (m.run + 1))
    refine ⟨⟨k4, k5, k3, fun j => frozen_of_row v b j _ _ hcv⟩, ⟨hok, ?_, ?_, h.low, h.apart⟩, (on.mono (G := fun k => k = b ∨ k = p) (fun _ _ e => .inr e)).trans o2 (fun _ _ e => .inl e)⟩
    · rw [hm1]
      exact rset_run (rset_quiet hcv 0) (m.run + 1)
    · rw [hm1]
      exact hv.only o2 (fun k hk => by have := h.low; omega) h.apart)
  have HOK := Lib.hid hok
  clear h hok hr hbase hm1 hrun c0 c1 c2 c4 c5 c6
  go_enter Try.func14, Try.ntmps14
  go_wp2_with fail
  refine hn.mono ?_
  rintro e v ⟨rfl, hv, on⟩
  clear hn c3
  obtain ⟨⟨k4, k5, k3, kz⟩, rm, o2⟩ := STEP.out v hv on
  have z4 := kz 4
  have z5 := kz 5
  clear STEP hv on kz
  have cb := bad_calls rm.win (by decide)
  have RMH := Lib.hid (And.intro rm o2)
  have k3b := (rcell rm.cells).2.2.2.1
  clear rm o2
  go_wp2_with fail
  generalize ((v.setCell ⟨b, 5, none⟩ (.int .i64 0)).setCell ⟨b, 4, none⟩ (.int .i64 (m.run + 1))) = u at *
  refine cb.mono ?_
  rintro e w' ⟨rfl, rfl⟩
  clear cb k4 k5 k3 z4 z5 k3b hq1
  obtain ⟨c0, c1, c2, c3, c4, c5, c6⟩ := rcell RMH.out.1.cells
  have z6 := frozen_of_row w' b 6 _ _ RMH.out.1.cells
  clear c2 c5
  rw [g0] at c6
  have FIN := Lib.hid (show ∀ j, RM ((w'.drewN j).setCell ⟨b, 6, none⟩ (.int .i64 2)) base p b { m1 with st := 2 } ∧ Only (fun k => k = b ∨ k = p) w ((w'.drewN j).setCell ⟨b, 6, none⟩ (.int .i64 2)) from fun j =>
    ⟨(RMH.out.1.drewN j).put (m2 := { m1 with st := 2 }) ⟨HOK.out.bad, HOK.out.good, HOK.out.silent, by show (0 : Int) ≤ 2 ∧ (2 : Int) ≤ 2; decide, HOK.out.short, HOK.out.run, HOK.out.quiet⟩ rfl 6 _ (rset_st (w := w'.drewN j) RMH.out.1.cells 2), only_two (RMH.out.2.drewN j) 6 _⟩)
  clear RMH HOK
  go_upto_region 7 with (fail)
  go_quiet (fail)
  go_wp2
  all_goals
    go_ret
    exact ⟨rfl, FIN.out _⟩
set_option maxRecDepth 20000 in
set_option maxHeartbeats 400000 in
theorem rnote_gb (h : RM w base p b m) (hr : m.run < 4294967295) (hbase : base ≤ w.heap.size) (m1 : Mo) (hm1 : m1 = m.hear true) (g0 : m1.st = 0) (g1 : ¬ m1.bad ≤ bl m1.L) (g2 : m1.bad ≤ 2 * bl m1.L) : Calls Try.prog 14 #[.pointer (some ⟨b, 0, none⟩), .bool true] w fun e w' =>
    e = .returned (.int .i64 { m1 with st := 1 }.st) ∧ RM w' base p b { m1 with st := 1 } ∧ Only (fun k => k = b ∨ k = p) w w' := by
  have hn := refNote_calls h.win (by decide) hbase true
  have hok : m1.ok := by rw [hm1]; exact Mo.hear_ok h.ok true (fun _ => hr)
  have h1 := hok.bad
  have h4 := hok.st
  have q4 : (m1.bad + 1).tdiv 2 ≤ bl m1.L := (half_le h1.1).2 (by omega)
  have hrun := h.ok.run
  obtain ⟨c0, c1, c2, c3, c4, c5, c6⟩ := rcell h.cells
  have hq1 : 0 ≤ m.run + 1 ∧ m.run + 1 ≤ 4294967295 := by omega
  have STEP := Lib.hid (show ∀ v, RW v base p 16 (nx 16 m.L true) → Only (fun k => k = p) w v → (v.cell? ⟨b, 4, none⟩ = some (.int .i64 m.run) ∧ v.cell? ⟨b, 5, none⟩ = some (.int .i64 m.quiet) ∧ v.cell? ⟨b, 3, none⟩ = some (.pointer (some ⟨p, 0, none⟩)) ∧ (∀ j, v.frozen? ⟨b, j, none⟩ = false)) ∧
      RM ((v.setCell ⟨b, 5, none⟩ (.int .i64 0)).setCell ⟨b, 4, none⟩ (.int .i64 (m.run + 1))) base p b m1 ∧ Only (fun k => k = b ∨ k = p) w ((v.setCell ⟨b, 5, none⟩ (.int .i64 0)).setCell ⟨b, 4, none⟩ (.int .i64 (m.run + 1))) from fun v hv on => by
    have hcv : v.heap[b]? = some (.cells (rcells m p) 54 (0, 0)) := (on.block b (lt_of_block h.cells) (fun e => h.apart e.symm)).trans h.cells
    obtain ⟨_, _, _, k3, k4, k5, _⟩ := rcell hcv
    have o2 := only_put (only_put (Only.refl (fun k => k = b) v) 5 (.int .i64 0)) 4 (.int .i64 (m.run + 1))
    refine ⟨⟨k4, k5, k3, fun j => frozen_of_row v b j _ _ hcv⟩, ⟨hok, ?_, ?_, h.low, h.apart⟩, (on.mono (G := fun k => k = b ∨ k = p) (fun _ _ e => .inr e)).trans o2 (fun _ _ e => .inl e)⟩
    · rw [hm1]
      exact rset_run (rset_quiet hcv 0) (m.run + 1)
    · rw [hm1]
      exact hv.only o2 (fun k hk => by have := h.low; omega) h.apart)
  have HOK := Lib.hid hok
  clear h hok hr hbase hm1 hrun c0 c1 c2 c4 c5 c6
  go_enter Try.func14, Try.ntmps14
  go_wp2_with fail
  refine hn.mono ?_
  rintro e v ⟨rfl, hv, on⟩
  clear hn c3
  obtain ⟨⟨k4, k5, k3, kz⟩, rm, o2⟩ := STEP.out v hv on
  have z4 := kz 4
  have z5 := kz 5
  clear STEP hv on kz
  have cb := bad_calls rm.win (by decide)
  have RMH := Lib.hid (And.intro rm o2)
  have k3b := (rcell rm.cells).2.2.2.1
  clear rm o2
  go_wp2_with fail
  generalize ((v.setCell ⟨b, 5, none⟩ (.int .i64 0)).setCell ⟨b, 4, none⟩ (.int .i64 (m.run + 1))) = u at *
  refine cb.mono ?_
  rintro e w' ⟨rfl, rfl⟩
  clear cb k4 k5 k3 z4 z5 k3b hq1
  obtain ⟨c0, c1, c2, c3, c4, c5, c6⟩ := rcell RMH.out.1.cells
  have z6 := frozen_of_row w' b 6 _ _ RMH.out.1.cells
  clear c2 c5
  rw [g0] at c6
  have FIN := Lib.hid (show ∀ j, RM ((w'.drewN j).setCell ⟨b, 6, none⟩ (.int .i64 1)) base p b { m1 with st := 1 } ∧ Only (fun k => k = b ∨ k = p) w ((w'.drewN j).setCell ⟨b, 6, none⟩ (.int .i64 1)) from fun j =>
    ⟨(RMH.out.1.drewN j).put (m2 := { m1 with st := 1 }) ⟨HOK.out.bad, HOK.out.good, HOK.out.silent, by show (0 : Int) ≤ 1 ∧ (1 : Int) ≤ 2; decide, HOK.out.short, HOK.out.run, HOK.out.quiet⟩ rfl 6 _ (rset_st (w := w'.drewN j) RMH.out.1.cells 1), only_two (RMH.out.2.drewN j) 6 _⟩)
  clear RMH HOK
  go_upto_region 7 with (fail)
  go_quiet (fail)
  go_wp2
  all_goals
    go_ret
    exact ⟨rfl, FIN.out _⟩
set_option maxRecDepth 20000 in
set_option maxHeartbeats 400000 in
theorem rnote_gc (h : RM w base p b m) (hr : m.run < 4294967295) (hbase : base ≤ w.heap.size) (m1 : Mo) (hm1 : m1 = m.hear true) (g0 : m1.st = 0) (g1 : ¬ m1.bad ≤ bl m1.L) (g2 : ¬ m1.bad ≤ 2 * bl m1.L) : Calls Try.prog 14 #[.pointer (some ⟨b, 0, none⟩), .bool true] w fun e w' =>
    e = .returned (.int .i64 m1.st) ∧ RM w' base p b m1 ∧ Only (fun k => k = b ∨ k = p) w w' := by
  have hn := refNote_calls h.win (by decide) hbase true
  have hok : m1.ok := by rw [hm1]; exact Mo.hear_ok h.ok true (fun _ => hr)
  have h1 := hok.bad
  have h4 := hok.st
  have q4 : ¬ (m1.bad + 1).tdiv 2 ≤ bl m1.L := fun e => by have := (half_le h1.1).1 e; omega
  have hrun := h.ok.run
  obtain ⟨c0, c1, c2, c3, c4, c5, c6⟩ := rcell h.cells
  have hq1 : 0 ≤ m.run + 1 ∧ m.run + 1 ≤ 4294967295 := by omega
  have STEP := Lib.hid (show ∀ v, RW v base p 16 (nx 16 m.L true) → Only (fun k => k = p) w v → (v.cell? ⟨b, 4, none⟩ = some (.int .i64 m.run) ∧ v.cell? ⟨b, 5, none⟩ = some (.int .i64 m.quiet) ∧ v.cell? ⟨b, 3, none⟩ = some (.pointer (some ⟨p, 0, none⟩)) ∧ (∀ j, v.frozen? ⟨b, j, none⟩ = false)) ∧
      RM ((v.setCell ⟨b, 5, none⟩ (.int .i64 0)).setCell ⟨b, 4, none⟩ (.int .i64 (m.run + 1))) base p b m1 ∧ Only (fun k => k = b ∨ k = p) w ((v.setCell ⟨b, 5, none⟩ (.int .i64 0)).setCell ⟨b, 4, none⟩ (.int .i64 (m.run + 1))) from fun v hv on => by
    have hcv : v.heap[b]? = some (.cells (rcells m p) 54 (0, 0)) := (on.block b (lt_of_block h.cells) (fun e => h.apart e.symm)).trans h.cells
    obtain ⟨_, _, _, k3, k4, k5, _⟩ := rcell hcv
    have o2 := only_put (only_put (Only.refl (fun k => k = b) v) 5 (.int .i64 0)) 4 (.int .i64 (m.run + 1))
    refine ⟨⟨k4, k5, k3, fun j => frozen_of_row v b j _ _ hcv⟩, ⟨hok, ?_, ?_, h.low, h.apart⟩, (on.mono (G := fun k => k = b ∨ k = p) (fun _ _ e => .inr e)).trans o2 (fun _ _ e => .inl e)⟩
    · rw [hm1]
      exact rset_run (rset_quiet hcv 0) (m.run + 1)
    · rw [hm1]
      exact hv.only o2 (fun k hk => by have := h.low; omega) h.apart)
  have HOK := Lib.hid hok
  clear h hok hr hbase hm1 hrun c0 c1 c2 c4 c5 c6
  go_enter Try.func14, Try.ntmps14
  go_wp2_with fail
  refine hn.mono ?_
  rintro e v ⟨rfl, hv, on⟩
  clear hn c3
  obtain ⟨⟨k4, k5, k3, kz⟩, rm, o2⟩ := STEP.out v hv on
  have z4 := kz 4
  have z5 := kz 5
  clear STEP hv on kz
  have cb := bad_calls rm.win (by decide)
  have RMH := Lib.hid (And.intro rm o2)
  have k3b := (rcell rm.cells).2.2.2.1
  clear rm o2
  go_wp2_with fail
  generalize ((v.setCell ⟨b, 5, none⟩ (.int .i64 0)).setCell ⟨b, 4, none⟩ (.int .i64 (m.run + 1))) = u at *
  refine cb.mono ?_
  rintro e w' ⟨rfl, rfl⟩
  clear cb k4 k5 k3 z4 z5 k3b hq1
  obtain ⟨c0, c1, c2, c3, c4, c5, c6⟩ := rcell RMH.out.1.cells
  have z6 := frozen_of_row w' b 6 _ _ RMH.out.1.cells
  clear c2 c5
  rw [g0] at c6
  have FIN := Lib.hid (show ∀ j, RM (w'.drewN j) base p b m1 ∧ Only (fun k => k = b ∨ k = p) w (w'.drewN j) from fun j => ⟨RMH.out.1.drewN j, RMH.out.2.drewN j⟩)
  clear RMH HOK
  go_upto_region 7 with (fail)
  go_quiet (fail)
  go_wp2
  all_goals
    go_ret
    exact ⟨rfl, FIN.out _⟩
set_option maxRecDepth 20000 in
set_option maxHeartbeats 400000 in
theorem rnote_gd (h : RM w base p b m) (hr : m.run < 4294967295) (hbase : base ≤ w.heap.size) (m1 : Mo) (hm1 : m1 = m.hear true) (g0 : ¬ m1.st = 0) (g : m1.good ≤ m1.run) : Calls Try.prog 14 #[.pointer (some ⟨b, 0, none⟩), .bool true] w fun e w' =>
    e = .returned (.int .i64 { m1 with L := [], st := 0 }.st) ∧ RM w' base p b { m1 with L := [], st := 0 } ∧ Only (fun k => k = b ∨ k = p) w w' := by
  have hn := refNote_calls h.win (by decide) hbase true
  have hok : m1.ok := by rw [hm1]; exact Mo.hear_ok h.ok true (fun _ => hr)
  have h1 := hok.bad
  have h4 := hok.st
  have hrun := h.ok.run
  obtain ⟨c0, c1, c2, c3, c4, c5, c6⟩ := rcell h.cells
  have hq1 : 0 ≤ m.run + 1 ∧ m.run + 1 ≤ 4294967295 := by omega
  have STEP := Lib.hid (show ∀ v, RW v base p 16 (nx 16 m.L true) → Only (fun k => k = p) w v → (v.cell? ⟨b, 4, none⟩ = some (.int .i64 m.run) ∧ v.cell? ⟨b, 5, none⟩ = some (.int .i64 m.quiet) ∧ v.cell? ⟨b, 3, none⟩ = some (.pointer (some ⟨p, 0, none⟩)) ∧ (∀ j, v.frozen? ⟨b, j, none⟩ = false)) ∧
      RM ((v.setCell ⟨b, 5, none⟩ (.int .i64 0)).setCell ⟨b, 4, none⟩ (.int .i64 (m.run + 1))) base p b m1 ∧ Only (fun k => k = b ∨ k = p) w ((v.setCell ⟨b, 5, none⟩ (.int .i64 0)).setCell ⟨b, 4, none⟩ (.int .i64 (m.run + 1))) from fun v hv on => by
    have hcv : v.heap[b]? = some (.cells (rcells m p) 54 (0, 0)) := (on.block b (lt_of_block h.cells) (fun e => h.apart e.symm)).trans h.cells
    obtain ⟨_, _, _, k3, k4, k5, _⟩ := rcell hcv
    have o2 := only_put (only_put (Only.refl (fun k => k = b) v) 5 (.int .i64 0)) 4 (.int .i64 (m.run + 1))
    refine ⟨⟨k4, k5, k3, fun j => frozen_of_row v b j _ _ hcv⟩, ⟨hok, ?_, ?_, h.low, h.apart⟩, (on.mono (G := fun k => k = b ∨ k = p) (fun _ _ e => .inr e)).trans o2 (fun _ _ e => .inl e)⟩
    · rw [hm1]
      exact rset_run (rset_quiet hcv 0) (m.run + 1)
    · rw [hm1]
      exact hv.only o2 (fun k hk => by have := h.low; omega) h.apart)
  have HOK := Lib.hid hok
  clear h hok hr hbase hm1 hrun c0 c1 c2 c4 c5 c6
  go_enter Try.func14, Try.ntmps14
  go_wp2_with fail
  refine hn.mono ?_
  rintro e v ⟨rfl, hv, on⟩
  clear hn c3
  obtain ⟨⟨k4, k5, k3, kz⟩, rm, o2⟩ := STEP.out v hv on
  have z4 := kz 4
  have z5 := kz 5
  clear STEP hv on kz
  have cb := bad_calls rm.win (by decide)
  have RMH := Lib.hid (And.intro rm o2)
  have k3b := (rcell rm.cells).2.2.2.1
  clear rm o2
  go_wp2_with fail
  generalize ((v.setCell ⟨b, 5, none⟩ (.int .i64 0)).setCell ⟨b, 4, none⟩ (.int .i64 (m.run + 1))) = u at *
  refine cb.mono ?_
  rintro e w' ⟨rfl, rfl⟩
  clear cb k4 k5 k3 z4 z5 k3b hq1
  obtain ⟨c0, c1, c2, c3, c4, c5, c6⟩ := rcell RMH.out.1.cells
  have z6 := frozen_of_row w' b 6 _ _ RMH.out.1.cells
  clear c2 c5
  have cc := fun j => refClear_calls (RMH.out.1.drewN j).win
  go_upto_region 7 with (fail)
  go_quiet (fail)
  go_wp2_with fail
  refine (cc _).mono ?_
  rintro e v2 ⟨rfl, rw2, on2⟩
  clear cc c0 c1 c3 c4 c6 z6
  have rm2 : RM v2 base p b { m1 with L := [] } := ⟨⟨HOK.out.bad, HOK.out.good, HOK.out.silent, HOK.out.st, Nat.zero_le _, HOK.out.run, HOK.out.quiet⟩, (on2.block b (lt_of_block RMH.out.1.cells) (fun e => RMH.out.1.apart e.symm)).trans RMH.out.1.cells, rw2, RMH.out.1.low, RMH.out.1.apart⟩
  have z6 := frozen_of_row v2 b 6 _ _ rm2.cells
  have c6 := (rcell rm2.cells).2.2.2.2.2.2
  have FIN := Lib.hid (show RM (v2.setCell ⟨b, 6, none⟩ (.int .i64 0)) base p b { m1 with L := [], st := 0 } ∧ Only (fun k => k = b ∨ k = p) w (v2.setCell ⟨b, 6, none⟩ (.int .i64 0)) from
    ⟨rm2.put (m2 := { m1 with L := [], st := 0 }) ⟨HOK.out.bad, HOK.out.good, HOK.out.silent, by show (0 : Int) ≤ 0 ∧ (0 : Int) ≤ 2; decide, Nat.zero_le _, HOK.out.run, HOK.out.quiet⟩ rfl 6 _ (rset_st rm2.cells 0), only_two ((RMH.out.2.drewN _).trans on2 (fun _ _ e => .inr e)) 6 _⟩)
  clear rm2 rw2 on2 RMH HOK
  go_wp2
  go_ret
  exact ⟨rfl, FIN.out⟩
set_option maxRecDepth 20000 in
set_option maxHeartbeats 400000 in
theorem rnote_ge (h : RM w base p b m) (hr : m.run < 4294967295) (hbase : base ≤ w.heap.size) (m1 : Mo) (hm1 : m1 = m.hear true) (g0 : ¬ m1.st = 0) (g : ¬ m1.good ≤ m1.run) (g1 : m1.bad ≤ bl m1.L) : Calls Try.prog 14 #[.pointer (some ⟨b, 0, none⟩), .bool true] w fun e w' =>
    e = .returned (.int .i64 { m1 with st := 2 }.st) ∧ RM w' base p b { m1 with st := 2 } ∧ Only (fun k => k = b ∨ k = p) w w' := by
  have hn := refNote_calls h.win (by decide) hbase true
  have hok : m1.ok := by rw [hm1]; exact Mo.hear_ok h.ok true (fun _ => hr)
  have h1 := hok.bad
  have h4 := hok.st
  have hrun := h.ok.run
  obtain ⟨c0, c1, c2, c3, c4, c5, c6⟩ := rcell h.cells
  have hq1 : 0 ≤ m.run + 1 ∧ m.run + 1 ≤ 4294967295 := by omega
  have STEP := Lib.hid (show ∀ v, RW v base p 16 (nx 16 m.L true) → Only (fun k => k = p) w v → (v.cell? ⟨b, 4, none⟩ = some (.int .i64 m.run) ∧ v.cell? ⟨b, 5, none⟩ = some (.int .i64 m.quiet) ∧ v.cell? ⟨b, 3, none⟩ = some (.pointer (some ⟨p, 0, none⟩)) ∧ (∀ j, v.frozen? ⟨b, j, none⟩ = false)) ∧
      RM ((v.setCell ⟨b, 5, none⟩ (.int .i64 0)).setCell ⟨b, 4, none⟩ (.int .i64 (m.run + 1))) base p b m1 ∧ Only (fun k => k = b ∨ k = p) w ((v.setCell ⟨b, 5, none⟩ (.int .i64 0)).setCell ⟨b, 4, none⟩ (.int .i64 (m.run + 1))) from fun v hv on => by
    have hcv : v.heap[b]? = some (.cells (rcells m p) 54 (0, 0)) := (on.block b (lt_of_block h.cells) (fun e => h.apart e.symm)).trans h.cells
    obtain ⟨_, _, _, k3, k4, k5, _⟩ := rcell hcv
    have o2 := only_put (only_put (Only.refl (fun k => k = b) v) 5 (.int .i64 0)) 4 (.int .i64 (m.run + 1))
    refine ⟨⟨k4, k5, k3, fun j => frozen_of_row v b j _ _ hcv⟩, ⟨hok, ?_, ?_, h.low, h.apart⟩, (on.mono (G := fun k => k = b ∨ k = p) (fun _ _ e => .inr e)).trans o2 (fun _ _ e => .inl e)⟩
    · rw [hm1]
      exact rset_run (rset_quiet hcv 0) (m.run + 1)
    · rw [hm1]
      exact hv.only o2 (fun k hk => by have := h.low; omega) h.apart)
  have HOK := Lib.hid hok
  clear h hok hr hbase hm1 hrun c0 c1 c2 c4 c5 c6
  go_enter Try.func14, Try.ntmps14
  go_wp2_with fail
  refine hn.mono ?_
  rintro e v ⟨rfl, hv, on⟩
  clear hn c3
  obtain ⟨⟨k4, k5, k3, kz⟩, rm, o2⟩ := STEP.out v hv on
  have z4 := kz 4
  have z5 := kz 5
  clear STEP hv on kz
  have cb := bad_calls rm.win (by decide)
  have RMH := Lib.hid (And.intro rm o2)
  have k3b := (rcell rm.cells).2.2.2.1
  clear rm o2
  go_wp2_with fail
  generalize ((v.setCell ⟨b, 5, none⟩ (.int .i64 0)).setCell ⟨b, 4, none⟩ (.int .i64 (m.run + 1))) = u at *
  refine cb.mono ?_
  rintro e w' ⟨rfl, rfl⟩
  clear cb k4 k5 k3 z4 z5 k3b hq1
  obtain ⟨c0, c1, c2, c3, c4, c5, c6⟩ := rcell RMH.out.1.cells
  have z6 := frozen_of_row w' b 6 _ _ RMH.out.1.cells
  clear c2 c5
  have FIN := Lib.hid (show ∀ j, RM ((w'.drewN j).setCell ⟨b, 6, none⟩ (.int .i64 2)) base p b { m1 with st := 2 } ∧ Only (fun k => k = b ∨ k = p) w ((w'.drewN j).setCell ⟨b, 6, none⟩ (.int .i64 2)) from fun j =>
    ⟨(RMH.out.1.drewN j).put (m2 := { m1 with st := 2 }) ⟨HOK.out.bad, HOK.out.good, HOK.out.silent, by show (0 : Int) ≤ 2 ∧ (2 : Int) ≤ 2; decide, HOK.out.short, HOK.out.run, HOK.out.quiet⟩ rfl 6 _ (rset_st (w := w'.drewN j) RMH.out.1.cells 2), only_two (RMH.out.2.drewN j) 6 _⟩)
  clear RMH HOK
  go_upto_region 7 with (fail)
  go_quiet (fail)
  go_wp2
  all_goals
    go_ret
    exact ⟨rfl, FIN.out _⟩
set_option maxRecDepth 20000 in
set_option maxHeartbeats 400000 in
theorem rnote_gf (h : RM w base p b m) (hr : m.run < 4294967295) (hbase : base ≤ w.heap.size) (m1 : Mo) (hm1 : m1 = m.hear true) (g0 : ¬ m1.st = 0) (g : ¬ m1.good ≤ m1.run) (g1 : ¬ m1.bad ≤ bl m1.L) : Calls Try.prog 14 #[.pointer (some ⟨b, 0, none⟩), .bool true] w fun e w' =>
    e = .returned (.int .i64 m1.st) ∧ RM w' base p b m1 ∧ Only (fun k => k = b ∨ k = p) w w' := by
  have hn := refNote_calls h.win (by decide) hbase true
  have hok : m1.ok := by rw [hm1]; exact Mo.hear_ok h.ok true (fun _ => hr)
  have h1 := hok.bad
  have h4 := hok.st
  have hrun := h.ok.run
  obtain ⟨c0, c1, c2, c3, c4, c5, c6⟩ := rcell h.cells
  have hq1 : 0 ≤ m.run + 1 ∧ m.run + 1 ≤ 4294967295 := by omega
  have STEP := Lib.hid (show ∀ v, RW v base p 16 (nx 16 m.L true) → Only (fun k => k = p) w v → (v.cell? ⟨b, 4, none⟩ = some (.int .i64 m.run) ∧ v.cell? ⟨b, 5, none⟩ = some (.int .i64 m.quiet) ∧ v.cell? ⟨b, 3, none⟩ = some (.pointer (some ⟨p, 0, none⟩)) ∧ (∀ j, v.frozen? ⟨b, j, none⟩ = false)) ∧
      RM ((v.setCell ⟨b, 5, none⟩ (.int .i64 0)).setCell ⟨b, 4, none⟩ (.int .i64 (m.run + 1))) base p b m1 ∧ Only (fun k => k = b ∨ k = p) w ((v.setCell ⟨b, 5, none⟩ (.int .i64 0)).setCell ⟨b, 4, none⟩ (.int .i64 (m.run + 1))) from fun v hv on => by
    have hcv : v.heap[b]? = some (.cells (rcells m p) 54 (0, 0)) := (on.block b (lt_of_block h.cells) (fun e => h.apart e.symm)).trans h.cells
    obtain ⟨_, _, _, k3, k4, k5, _⟩ := rcell hcv
    have o2 := only_put (only_put (Only.refl (fun k => k = b) v) 5 (.int .i64 0)) 4 (.int .i64 (m.run + 1))
    refine ⟨⟨k4, k5, k3, fun j => frozen_of_row v b j _ _ hcv⟩, ⟨hok, ?_, ?_, h.low, h.apart⟩, (on.mono (G := fun k => k = b ∨ k = p) (fun _ _ e => .inr e)).trans o2 (fun _ _ e => .inl e)⟩
    · rw [hm1]
      exact rset_run (rset_quiet hcv 0) (m.run + 1)
    · rw [hm1]
      exact hv.only o2 (fun k hk => by have := h.low; omega) h.apart)
  have HOK := Lib.hid hok
  clear h hok hr hbase hm1 hrun c0 c1 c2 c4 c5 c6
  go_enter Try.func14, Try.ntmps14
  go_wp2_with fail
  refine hn.mono ?_
  rintro e v ⟨rfl, hv, on⟩
  clear hn c3
  obtain ⟨⟨k4, k5, k3, kz⟩, rm, o2⟩ := STEP.out v hv on
  have z4 := kz 4
  have z5 := kz 5
  clear STEP hv on kz
  have cb := bad_calls rm.win (by decide)
  have RMH := Lib.hid (And.intro rm o2)
  have k3b := (rcell rm.cells).2.2.2.1
  clear rm o2
  go_wp2_with fail
  generalize ((v.setCell ⟨b, 5, none⟩ (.int .i64 0)).setCell ⟨b, 4, none⟩ (.int .i64 (m.run + 1))) = u at *
  refine cb.mono ?_
  rintro e w' ⟨rfl, rfl⟩
  clear cb k4 k5 k3 z4 z5 k3b hq1
  obtain ⟨c0, c1, c2, c3, c4, c5, c6⟩ := rcell RMH.out.1.cells
  have z6 := frozen_of_row w' b 6 _ _ RMH.out.1.cells
  clear c2 c5
  have FIN := Lib.hid (show ∀ j, RM (w'.drewN j) base p b m1 ∧ Only (fun k => k = b ∨ k = p) w (w'.drewN j) from fun j => ⟨RMH.out.1.drewN j, RMH.out.2.drewN j⟩)
  clear RMH HOK
  go_upto_region 7 with (fail)
  go_quiet (fail)
  go_wp2
  all_goals
    go_ret
    exact ⟨rfl, FIN.out _⟩
set_option maxRecDepth 20000 in
set_option maxHeartbeats 400000 in
theorem rnote_ba (h : RM w base p b m) (hr : m.run < 4294967295) (hbase : base ≤ w.heap.size) (m1 : Mo) (hm1 : m1 = m.hear false) (g0 : m1.st = 0) (g1 : m1.bad ≤ bl m1.L) : Calls Try.prog 14 #[.pointer (some ⟨b, 0, none⟩), .bool false] w fun e w' =>
    e = .returned (.int .i64 { m1 with st := 2 }.st) ∧ RM w' base p b { m1 with st := 2 } ∧ Only (fun k => k = b ∨ k = p) w w' := by
  have hn := refNote_calls h.win (by decide) hbase false
  have hok : m1.ok := by rw [hm1]; exact Mo.hear_ok h.ok false (fun _ => hr)
  have h1 := hok.bad
  have h4 := hok.st
  have hrun := h.ok.run
  obtain ⟨c0, c1, c2, c3, c4, c5, c6⟩ := rcell h.cells
  have hq1 : 0 ≤ m.run + 1 ∧ m.run + 1 ≤ 4294967295 := by omega
  have STEP := Lib.hid (show ∀ v, RW v base p 16 (nx 16 m.L false) → Only (fun k => k = p) w v → (v.cell? ⟨b, 4, none⟩ = some (.int .i64 m.run) ∧ v.cell? ⟨b, 5, none⟩ = some (.int .i64 m.quiet) ∧ v.cell? ⟨b, 3, none⟩ = some (.pointer (some ⟨p, 0, none⟩)) ∧ (∀ j, v.frozen? ⟨b, j, none⟩ = false)) ∧
      RM (((v.setCell ⟨b, 5, none⟩ (.int .i64 0)).setCell ⟨b, 4, none⟩ (.int .i64 (m.run + 1))).setCell ⟨b, 4, none⟩ (.int .i64 0)) base p b m1 ∧ Only (fun k => k = b ∨ k = p) w (((v.setCell ⟨b, 5, none⟩ (.int .i64 0)).setCell ⟨b, 4, none⟩ (.int .i64 (m.run + 1))).setCell ⟨b, 4, none⟩ (.int .i64 0)) from fun v hv on => by
    have hcv : v.heap[b]? = some (.cells (rcells m p) 54 (0, 0)) := (on.block b (lt_of_block h.cells) (fun e => h.apart e.symm)).trans h.cells
    obtain ⟨_, _, _, k3, k4, k5, _⟩ := rcell hcv
    have o2 := only_put (only_put (only_put (Only.refl (fun k => k = b) v) 5 (.int .i64 0)) 4 (.int .i64 (m.run + 1))) 4 (.int .i64 0)
    refine ⟨⟨k4, k5, k3, fun j => frozen_of_row v b j _ _ hcv⟩, ⟨hok, ?_, ?_, h.low, h.apart⟩, (on.mono (G := fun k => k = b ∨ k = p) (fun _ _ e => .inr e)).trans o2 (fun _ _ e => .inl e)⟩
    · rw [hm1]
      exact rset_run (rset_run (rset_quiet hcv 0) (m.run + 1)) 0
    · rw [hm1]
      exact hv.only o2 (fun k hk => by have := h.low; omega) h.apart)
  have HOK := Lib.hid hok
  clear h hok hr hbase hm1 hrun c0 c1 c2 c4 c5 c6
  go_enter Try.func14, Try.ntmps14
  go_wp2_with fail
  refine hn.mono ?_
  rintro e v ⟨rfl, hv, on⟩
  clear hn c3
  obtain ⟨⟨k4, k5, k3, kz⟩, rm, o2⟩ := STEP.out v hv on
  have z4 := kz 4
  have z5 := kz 5
  clear STEP hv on kz
  have cb := bad_calls rm.win (by decide)
  have RMH := Lib.hid (And.intro rm o2)
  have k3b := (rcell rm.cells).2.2.2.1
  clear rm o2
  go_wp2_with fail
  generalize (((v.setCell ⟨b, 5, none⟩ (.int .i64 0)).setCell ⟨b, 4, none⟩ (.int .i64 (m.run + 1))).setCell ⟨b, 4, none⟩ (.int .i64 0)) = u at *
  refine cb.mono ?_
  rintro e w' ⟨rfl, rfl⟩
  clear cb k4 k5 k3 z4 z5 k3b hq1
  obtain ⟨c0, c1, c2, c3, c4, c5, c6⟩ := rcell RMH.out.1.cells
  have z6 := frozen_of_row w' b 6 _ _ RMH.out.1.cells
  clear c2 c5
  rw [g0] at c6
  have FIN := Lib.hid (show ∀ j, RM ((w'.drewN j).setCell ⟨b, 6, none⟩ (.int .i64 2)) base p b { m1 with st := 2 } ∧ Only (fun k => k = b ∨ k = p) w ((w'.drewN j).setCell ⟨b, 6, none⟩ (.int .i64 2)) from fun j =>
    ⟨(RMH.out.1.drewN j).put (m2 := { m1 with st := 2 }) ⟨HOK.out.bad, HOK.out.good, HOK.out.silent, by show (0 : Int) ≤ 2 ∧ (2 : Int) ≤ 2; decide, HOK.out.short, HOK.out.run, HOK.out.quiet⟩ rfl 6 _ (rset_st (w := w'.drewN j) RMH.out.1.cells 2), only_two (RMH.out.2.drewN j) 6 _⟩)
  clear RMH HOK
  go_upto_region 7 with (fail)
  go_quiet (fail)
  go_wp2
  all_goals
    go_ret
    exact ⟨rfl, FIN.out _⟩
set_option maxRecDepth 20000 in
set_option maxHeartbeats 400000 in
theorem rnote_bb (h : RM w base p b m) (hr : m.run < 4294967295) (hbase : base ≤ w.heap.size) (m1 : Mo) (hm1 : m1 = m.hear false) (g0 : m1.st = 0) (g1 : ¬ m1.bad ≤ bl m1.L) (g2 : m1.bad ≤ 2 * bl m1.L) : Calls Try.prog 14 #[.pointer (some ⟨b, 0, none⟩), .bool false] w fun e w' =>
    e = .returned (.int .i64 { m1 with st := 1 }.st) ∧ RM w' base p b { m1 with st := 1 } ∧ Only (fun k => k = b ∨ k = p) w w' := by
  have hn := refNote_calls h.win (by decide) hbase false
  have hok : m1.ok := by rw [hm1]; exact Mo.hear_ok h.ok false (fun _ => hr)
  have h1 := hok.bad
  have h4 := hok.st
  have q4 : (m1.bad + 1).tdiv 2 ≤ bl m1.L := (half_le h1.1).2 (by omega)
  have hrun := h.ok.run
  obtain ⟨c0, c1, c2, c3, c4, c5, c6⟩ := rcell h.cells
  have hq1 : 0 ≤ m.run + 1 ∧ m.run + 1 ≤ 4294967295 := by omega
  have STEP := Lib.hid (show ∀ v, RW v base p 16 (nx 16 m.L false) → Only (fun k => k = p) w v → (v.cell? ⟨b, 4, none⟩ = some (.int .i64 m.run) ∧ v.cell? ⟨b, 5, none⟩ = some (.int .i64 m.quiet) ∧ v.cell? ⟨b, 3, none⟩ = some (.pointer (some ⟨p, 0, none⟩)) ∧ (∀ j, v.frozen? ⟨b, j, none⟩ = false)) ∧
      RM (((v.setCell ⟨b, 5, none⟩ (.int .i64 0)).setCell ⟨b, 4, none⟩ (.int .i64 (m.run + 1))).setCell ⟨b, 4, none⟩ (.int .i64 0)) base p b m1 ∧ Only (fun k => k = b ∨ k = p) w (((v.setCell ⟨b, 5, none⟩ (.int .i64 0)).setCell ⟨b, 4, none⟩ (.int .i64 (m.run + 1))).setCell ⟨b, 4, none⟩ (.int .i64 0)) from fun v hv on => by
    have hcv : v.heap[b]? = some (.cells (rcells m p) 54 (0, 0)) := (on.block b (lt_of_block h.cells) (fun e => h.apart e.symm)).trans h.cells
    obtain ⟨_, _, _, k3, k4, k5, _⟩ := rcell hcv
    have o2 := only_put (only_put (only_put (Only.refl (fun k => k = b) v) 5 (.int .i64 0)) 4 (.int .i64 (m.run + 1))) 4 (.int .i64 0)
    refine ⟨⟨k4, k5, k3, fun j => frozen_of_row v b j _ _ hcv⟩, ⟨hok, ?_, ?_, h.low, h.apart⟩, (on.mono (G := fun k => k = b ∨ k = p) (fun _ _ e => .inr e)).trans o2 (fun _ _ e => .inl e)⟩
    · rw [hm1]
      exact rset_run (rset_run (rset_quiet hcv 0) (m.run + 1)) 0
    · rw [hm1]
      exact hv.only o2 (fun k hk => by have := h.low; omega) h.apart)
  have HOK := Lib.hid hok
  clear h hok hr hbase hm1 hrun c0 c1 c2 c4 c5 c6
  go_enter Try.func14, Try.ntmps14
  go_wp2_with fail
  refine hn.mono ?_
  rintro e v ⟨rfl, hv, on⟩
  clear hn c3
  obtain ⟨⟨k4, k5, k3, kz⟩, rm, o2⟩ := STEP.out v hv on
  have z4 := kz 4
  have z5 := kz 5
  clear STEP hv on kz
  have cb := bad_calls rm.win (by decide)
  have RMH := Lib.hid (And.intro rm o2)
  have k3b := (rcell rm.cells).2.2.2.1
  clear rm o2
  go_wp2_with fail
  generalize (((v.setCell ⟨b, 5, none⟩ (.int .i64 0)).setCell ⟨b, 4, none⟩ (.int .i64 (m.run + 1))).setCell ⟨b, 4, none⟩ (.int .i64 0)) = u at *
  refine cb.mono ?_
  rintro e w' ⟨rfl, rfl⟩
  clear cb k4 k5 k3 z4 z5 k3b hq1
  obtain ⟨c0, c1, c2, c3, c4, c5, c6⟩ := rcell RMH.out.1.cells
  have z6 := frozen_of_row w' b 6 _ _ RMH.out.1.cells
  clear c2 c5
  rw [g0] at c6
  have FIN := Lib.hid (show ∀ j, RM ((w'.drewN j).setCell ⟨b, 6, none⟩ (.int .i64 1)) base p b { m1 with st := 1 } ∧ Only (fun k => k = b ∨ k = p) w ((w'.drewN j).setCell ⟨b, 6, none⟩ (.int .i64 1)) from fun j =>
    ⟨(RMH.out.1.drewN j).put (m2 := { m1 with st := 1 }) ⟨HOK.out.bad, HOK.out.good, HOK.out.silent, by show (0 : Int) ≤ 1 ∧ (1 : Int) ≤ 2; decide, HOK.out.short, HOK.out.run, HOK.out.quiet⟩ rfl 6 _ (rset_st (w := w'.drewN j) RMH.out.1.cells 1), only_two (RMH.out.2.drewN j) 6 _⟩)
  clear RMH HOK
  go_upto_region 7 with (fail)
  go_quiet (fail)
  go_wp2
  all_goals
    go_ret
    exact ⟨rfl, FIN.out _⟩
set_option maxRecDepth 20000 in
set_option maxHeartbeats 400000 in
theorem rnote_bc (h : RM w base p b m) (hr : m.run < 4294967295) (hbase : base ≤ w.heap.size) (m1 : Mo) (hm1 : m1 = m.hear false) (g0 : m1.st = 0) (g1 : ¬ m1.bad ≤ bl m1.L) (g2 : ¬ m1.bad ≤ 2 * bl m1.L) : Calls Try.prog 14 #[.pointer (some ⟨b, 0, none⟩), .bool false] w fun e w' =>
    e = .returned (.int .i64 m1.st) ∧ RM w' base p b m1 ∧ Only (fun k => k = b ∨ k = p) w w' := by
  have hn := refNote_calls h.win (by decide) hbase false
  have hok : m1.ok := by rw [hm1]; exact Mo.hear_ok h.ok false (fun _ => hr)
  have h1 := hok.bad
  have h4 := hok.st
  have q4 : ¬ (m1.bad + 1).tdiv 2 ≤ bl m1.L := fun e => by have := (half_le h1.1).1 e; omega
  have hrun := h.ok.run
  obtain ⟨c0, c1, c2, c3, c4, c5, c6⟩ := rcell h.cells
  have hq1 : 0 ≤ m.run + 1 ∧ m.run + 1 ≤ 4294967295 := by omega
  have STEP := Lib.hid (show ∀ v, RW v base p 16 (nx 16 m.L false) → Only (fun k => k = p) w v → (v.cell? ⟨b, 4, none⟩ = some (.int .i64 m.run) ∧ v.cell? ⟨b, 5, none⟩ = some (.int .i64 m.quiet) ∧ v.cell? ⟨b, 3, none⟩ = some (.pointer (some ⟨p, 0, none⟩)) ∧ (∀ j, v.frozen? ⟨b, j, none⟩ = false)) ∧
      RM (((v.setCell ⟨b, 5, none⟩ (.int .i64 0)).setCell ⟨b, 4, none⟩ (.int .i64 (m.run + 1))).setCell ⟨b, 4, none⟩ (.int .i64 0)) base p b m1 ∧ Only (fun k => k = b ∨ k = p) w (((v.setCell ⟨b, 5, none⟩ (.int .i64 0)).setCell ⟨b, 4, none⟩ (.int .i64 (m.run + 1))).setCell ⟨b, 4, none⟩ (.int .i64 0)) from fun v hv on => by
    have hcv : v.heap[b]? = some (.cells (rcells m p) 54 (0, 0)) := (on.block b (lt_of_block h.cells) (fun e => h.apart e.symm)).trans h.cells
    obtain ⟨_, _, _, k3, k4, k5, _⟩ := rcell hcv
    have o2 := only_put (only_put (only_put (Only.refl (fun k => k = b) v) 5 (.int .i64 0)) 4 (.int .i64 (m.run + 1))) 4 (.int .i64 0)
    refine ⟨⟨k4, k5, k3, fun j => frozen_of_row v b j _ _ hcv⟩, ⟨hok, ?_, ?_, h.low, h.apart⟩, (on.mono (G := fun k => k = b ∨ k = p) (fun _ _ e => .inr e)).trans o2 (fun _ _ e => .inl e)⟩
    · rw [hm1]
      exact rset_run (rset_run (rset_quiet hcv 0) (m.run + 1)) 0
    · rw [hm1]
      exact hv.only o2 (fun k hk => by have := h.low; omega) h.apart)
  have HOK := Lib.hid hok
  clear h hok hr hbase hm1 hrun c0 c1 c2 c4 c5 c6
  go_enter Try.func14, Try.ntmps14
  go_wp2_with fail
  refine hn.mono ?_
  rintro e v ⟨rfl, hv, on⟩
  clear hn c3
  obtain ⟨⟨k4, k5, k3, kz⟩, rm, o2⟩ := STEP.out v hv on
  have z4 := kz 4
  have z5 := kz 5
  clear STEP hv on kz
  have cb := bad_calls rm.win (by decide)
  have RMH := Lib.hid (And.intro rm o2)
  have k3b := (rcell rm.cells).2.2.2.1
  clear rm o2
  go_wp2_with fail
  generalize (((v.setCell ⟨b, 5, none⟩ (.int .i64 0)).setCell ⟨b, 4, none⟩ (.int .i64 (m.run + 1))).setCell ⟨b, 4, none⟩ (.int .i64 0)) = u at *
  refine cb.mono ?_
  rintro e w' ⟨rfl, rfl⟩
  clear cb k4 k5 k3 z4 z5 k3b hq1
  obtain ⟨c0, c1, c2, c3, c4, c5, c6⟩ := rcell RMH.out.1.cells
  have z6 := frozen_of_row w' b 6 _ _ RMH.out.1.cells
  clear c2 c5
  rw [g0] at c6
  have FIN := Lib.hid (show ∀ j, RM (w'.drewN j) base p b m1 ∧ Only (fun k => k = b ∨ k = p) w (w'.drewN j) from fun j => ⟨RMH.out.1.drewN j, RMH.out.2.drewN j⟩)
  clear RMH HOK
  go_upto_region 7 with (fail)
  go_quiet (fail)
  go_wp2
  all_goals
    go_ret
    exact ⟨rfl, FIN.out _⟩
set_option maxRecDepth 20000 in
set_option maxHeartbeats 400000 in
theorem rnote_bd (h : RM w base p b m) (hr : m.run < 4294967295) (hbase : base ≤ w.heap.size) (m1 : Mo) (hm1 : m1 = m.hear false) (g0 : ¬ m1.st = 0) (g : m1.good ≤ m1.run) : Calls Try.prog 14 #[.pointer (some ⟨b, 0, none⟩), .bool false] w fun e w' =>
    e = .returned (.int .i64 { m1 with L := [], st := 0 }.st) ∧ RM w' base p b { m1 with L := [], st := 0 } ∧ Only (fun k => k = b ∨ k = p) w w' := by
  have hn := refNote_calls h.win (by decide) hbase false
  have hok : m1.ok := by rw [hm1]; exact Mo.hear_ok h.ok false (fun _ => hr)
  have h1 := hok.bad
  have h4 := hok.st
  have hrun := h.ok.run
  obtain ⟨c0, c1, c2, c3, c4, c5, c6⟩ := rcell h.cells
  have hq1 : 0 ≤ m.run + 1 ∧ m.run + 1 ≤ 4294967295 := by omega
  have STEP := Lib.hid (show ∀ v, RW v base p 16 (nx 16 m.L false) → Only (fun k => k = p) w v → (v.cell? ⟨b, 4, none⟩ = some (.int .i64 m.run) ∧ v.cell? ⟨b, 5, none⟩ = some (.int .i64 m.quiet) ∧ v.cell? ⟨b, 3, none⟩ = some (.pointer (some ⟨p, 0, none⟩)) ∧ (∀ j, v.frozen? ⟨b, j, none⟩ = false)) ∧
      RM (((v.setCell ⟨b, 5, none⟩ (.int .i64 0)).setCell ⟨b, 4, none⟩ (.int .i64 (m.run + 1))).setCell ⟨b, 4, none⟩ (.int .i64 0)) base p b m1 ∧ Only (fun k => k = b ∨ k = p) w (((v.setCell ⟨b, 5, none⟩ (.int .i64 0)).setCell ⟨b, 4, none⟩ (.int .i64 (m.run + 1))).setCell ⟨b, 4, none⟩ (.int .i64 0)) from fun v hv on => by
    have hcv : v.heap[b]? = some (.cells (rcells m p) 54 (0, 0)) := (on.block b (lt_of_block h.cells) (fun e => h.apart e.symm)).trans h.cells
    obtain ⟨_, _, _, k3, k4, k5, _⟩ := rcell hcv
    have o2 := only_put (only_put (only_put (Only.refl (fun k => k = b) v) 5 (.int .i64 0)) 4 (.int .i64 (m.run + 1))) 4 (.int .i64 0)
    refine ⟨⟨k4, k5, k3, fun j => frozen_of_row v b j _ _ hcv⟩, ⟨hok, ?_, ?_, h.low, h.apart⟩, (on.mono (G := fun k => k = b ∨ k = p) (fun _ _ e => .inr e)).trans o2 (fun _ _ e => .inl e)⟩
    · rw [hm1]
      exact rset_run (rset_run (rset_quiet hcv 0) (m.run + 1)) 0
    · rw [hm1]
      exact hv.only o2 (fun k hk => by have := h.low; omega) h.apart)
  have HOK := Lib.hid hok
  clear h hok hr hbase hm1 hrun c0 c1 c2 c4 c5 c6
  go_enter Try.func14, Try.ntmps14
  go_wp2_with fail
  refine hn.mono ?_
  rintro e v ⟨rfl, hv, on⟩
  clear hn c3
  obtain ⟨⟨k4, k5, k3, kz⟩, rm, o2⟩ := STEP.out v hv on
  have z4 := kz 4
  have z5 := kz 5
  clear STEP hv on kz
  have cb := bad_calls rm.win (by decide)
  have RMH := Lib.hid (And.intro rm o2)
  have k3b := (rcell rm.cells).2.2.2.1
  clear rm o2
  go_wp2_with fail
  generalize (((v.setCell ⟨b, 5, none⟩ (.int .i64 0)).setCell ⟨b, 4, none⟩ (.int .i64 (m.run + 1))).setCell ⟨b, 4, none⟩ (.int .i64 0)) = u at *
  refine cb.mono ?_
  rintro e w' ⟨rfl, rfl⟩
  clear cb k4 k5 k3 z4 z5 k3b hq1
  obtain ⟨c0, c1, c2, c3, c4, c5, c6⟩ := rcell RMH.out.1.cells
  have z6 := frozen_of_row w' b 6 _ _ RMH.out.1.cells
  clear c2 c5
  have cc := fun j => refClear_calls (RMH.out.1.drewN j).win
  go_upto_region 7 with (fail)
  go_quiet (fail)
  go_wp2_with fail
  refine (cc _).mono ?_
  rintro e v2 ⟨rfl, rw2, on2⟩
  clear cc c0 c1 c3 c4 c6 z6
  have rm2 : RM v2 base p b { m1 with L := [] } := ⟨⟨HOK.out.bad, HOK.out.good, HOK.out.silent, HOK.out.st, Nat.zero_le _, HOK.out.run, HOK.out.quiet⟩, (on2.block b (lt_of_block RMH.out.1.cells) (fun e => RMH.out.1.apart e.symm)).trans RMH.out.1.cells, rw2, RMH.out.1.low, RMH.out.1.apart⟩
  have z6 := frozen_of_row v2 b 6 _ _ rm2.cells
  have c6 := (rcell rm2.cells).2.2.2.2.2.2
  have FIN := Lib.hid (show RM (v2.setCell ⟨b, 6, none⟩ (.int .i64 0)) base p b { m1 with L := [], st := 0 } ∧ Only (fun k => k = b ∨ k = p) w (v2.setCell ⟨b, 6, none⟩ (.int .i64 0)) from
    ⟨rm2.put (m2 := { m1 with L := [], st := 0 }) ⟨HOK.out.bad, HOK.out.good, HOK.out.silent, by show (0 : Int) ≤ 0 ∧ (0 : Int) ≤ 2; decide, Nat.zero_le _, HOK.out.run, HOK.out.quiet⟩ rfl 6 _ (rset_st rm2.cells 0), only_two ((RMH.out.2.drewN _).trans on2 (fun _ _ e => .inr e)) 6 _⟩)
  clear rm2 rw2 on2 RMH HOK
  go_wp2
  go_ret
  exact ⟨rfl, FIN.out⟩
set_option maxRecDepth 20000 in
set_option maxHeartbeats 400000 in
theorem rnote_be (h : RM w base p b m) (hr : m.run < 4294967295) (hbase : base ≤ w.heap.size) (m1 : Mo) (hm1 : m1 = m.hear false) (g0 : ¬ m1.st = 0) (g : ¬ m1.good ≤ m1.run) (g1 : m1.bad ≤ bl m1.L) : Calls Try.prog 14 #[.pointer (some ⟨b, 0, none⟩), .bool false] w fun e w' =>
    e = .returned (.int .i64 { m1 with st := 2 }.st) ∧ RM w' base p b { m1 with st := 2 } ∧ Only (fun k => k = b ∨ k = p) w w' := by
  have hn := refNote_calls h.win (by decide) hbase false
  have hok : m1.ok := by rw [hm1]; exact Mo.hear_ok h.ok false (fun _ => hr)
  have h1 := hok.bad
  have h4 := hok.st
  have hrun := h.ok.run
  obtain ⟨c0, c1, c2, c3, c4, c5, c6⟩ := rcell h.cells
  have hq1 : 0 ≤ m.run + 1 ∧ m.run + 1 ≤ 4294967295 := by omega
  have STEP := Lib.hid (show ∀ v, RW v base p 16 (nx 16 m.L false) → Only (fun k => k = p) w v → (v.cell? ⟨b, 4, none⟩ = some (.int .i64 m.run) ∧ v.cell? ⟨b, 5, none⟩ = some (.int .i64 m.quiet) ∧ v.cell? ⟨b, 3, none⟩ = some (.pointer (some ⟨p, 0, none⟩)) ∧ (∀ j, v.frozen? ⟨b, j, none⟩ = false)) ∧
      RM (((v.setCell ⟨b, 5, none⟩ (.int .i64 0)).setCell ⟨b, 4, none⟩ (.int .i64 (m.run + 1))).setCell ⟨b, 4, none⟩ (.int .i64 0)) base p b m1 ∧ Only (fun k => k = b ∨ k = p) w (((v.setCell ⟨b, 5, none⟩ (.int .i64 0)).setCell ⟨b, 4, none⟩ (.int .i64 (m.run + 1))).setCell ⟨b, 4, none⟩ (.int .i64 0)) from fun v hv on => by
    have hcv : v.heap[b]? = some (.cells (rcells m p) 54 (0, 0)) := (on.block b (lt_of_block h.cells) (fun e => h.apart e.symm)).trans h.cells
    obtain ⟨_, _, _, k3, k4, k5, _⟩ := rcell hcv
    have o2 := only_put (only_put (only_put (Only.refl (fun k => k = b) v) 5 (.int .i64 0)) 4 (.int .i64 (m.run + 1))) 4 (.int .i64 0)
    refine ⟨⟨k4, k5, k3, fun j => frozen_of_row v b j _ _ hcv⟩, ⟨hok, ?_, ?_, h.low, h.apart⟩, (on.mono (G := fun k => k = b ∨ k = p) (fun _ _ e => .inr e)).trans o2 (fun _ _ e => .inl e)⟩
    · rw [hm1]
      exact rset_run (rset_run (rset_quiet hcv 0) (m.run + 1)) 0
    · rw [hm1]
      exact hv.only o2 (fun k hk => by have := h.low; omega) h.apart)
  have HOK := Lib.hid hok
  clear h hok hr hbase hm1 hrun c0 c1 c2 c4 c5 c6
  go_enter Try.func14, Try.ntmps14
  go_wp2_with fail
  refine hn.mono ?_
  rintro e v ⟨rfl, hv, on⟩
  clear hn c3
  obtain ⟨⟨k4, k5, k3, kz⟩, rm, o2⟩ := STEP.out v hv on
  have z4 := kz 4
  have z5 := kz 5
  clear STEP hv on kz
  have cb := bad_calls rm.win (by decide)
  have RMH := Lib.hid (And.intro rm o2)
  have k3b := (rcell rm.cells).2.2.2.1
  clear rm o2
  go_wp2_with fail
  generalize (((v.setCell ⟨b, 5, none⟩ (.int .i64 0)).setCell ⟨b, 4, none⟩ (.int .i64 (m.run + 1))).setCell ⟨b, 4, none⟩ (.int .i64 0)) = u at *
  refine cb.mono ?_
  rintro e w' ⟨rfl, rfl⟩
  clear cb k4 k5 k3 z4 z5 k3b hq1
  obtain ⟨c0, c1, c2, c3, c4, c5, c6⟩ := rcell RMH.out.1.cells
  have z6 := frozen_of_row w' b 6 _ _ RMH.out.1.cells
  clear c2 c5
  have FIN := Lib.hid (show ∀ j, RM ((w'.drewN j).setCell ⟨b, 6, none⟩ (.int .i64 2)) base p b { m1 with st := 2 } ∧ Only (fun k => k = b ∨ k = p) w ((w'.drewN j).setCell ⟨b, 6, none⟩ (.int .i64 2)) from fun j =>
    ⟨(RMH.out.1.drewN j).put (m2 := { m1 with st := 2 }) ⟨HOK.out.bad, HOK.out.good, HOK.out.silent, by show (0 : Int) ≤ 2 ∧ (2 : Int) ≤ 2; decide, HOK.out.short, HOK.out.run, HOK.out.quiet⟩ rfl 6 _ (rset_st (w := w'.drewN j) RMH.out.1.cells 2), only_two (RMH.out.2.drewN j) 6 _⟩)
  clear RMH HOK
  go_upto_region 7 with (fail)
  go_quiet (fail)
  go_wp2
  all_goals
    go_ret
    exact ⟨rfl, FIN.out _⟩
set_option maxRecDepth 20000 in
set_option maxHeartbeats 400000 in
theorem rnote_bf (h : RM w base p b m) (hr : m.run < 4294967295) (hbase : base ≤ w.heap.size) (m1 : Mo) (hm1 : m1 = m.hear false) (g0 : ¬ m1.st = 0) (g : ¬ m1.good ≤ m1.run) (g1 : ¬ m1.bad ≤ bl m1.L) : Calls Try.prog 14 #[.pointer (some ⟨b, 0, none⟩), .bool false] w fun e w' =>
    e = .returned (.int .i64 m1.st) ∧ RM w' base p b m1 ∧ Only (fun k => k = b ∨ k = p) w w' := by
  have hn := refNote_calls h.win (by decide) hbase false
  have hok : m1.ok := by rw [hm1]; exact Mo.hear_ok h.ok false (fun _ => hr)
  have h1 := hok.bad
  have h4 := hok.st
  have hrun := h.ok.run
  obtain ⟨c0, c1, c2, c3, c4, c5, c6⟩ := rcell h.cells
  have hq1 : 0 ≤ m.run + 1 ∧ m.run + 1 ≤ 4294967295 := by omega
  have STEP := Lib.hid (show ∀ v, RW v base p 16 (nx 16 m.L false) → Only (fun k => k = p) w v → (v.cell? ⟨b, 4, none⟩ = some (.int .i64 m.run) ∧ v.cell? ⟨b, 5, none⟩ = some (.int .i64 m.quiet) ∧ v.cell? ⟨b, 3, none⟩ = some (.pointer (some ⟨p, 0, none⟩)) ∧ (∀ j, v.frozen? ⟨b, j, none⟩ = false)) ∧
      RM (((v.setCell ⟨b, 5, none⟩ (.int .i64 0)).setCell ⟨b, 4, none⟩ (.int .i64 (m.run + 1))).setCell ⟨b, 4, none⟩ (.int .i64 0)) base p b m1 ∧ Only (fun k => k = b ∨ k = p) w (((v.setCell ⟨b, 5, none⟩ (.int .i64 0)).setCell ⟨b, 4, none⟩ (.int .i64 (m.run + 1))).setCell ⟨b, 4, none⟩ (.int .i64 0)) from fun v hv on => by
    have hcv : v.heap[b]? = some (.cells (rcells m p) 54 (0, 0)) := (on.block b (lt_of_block h.cells) (fun e => h.apart e.symm)).trans h.cells
    obtain ⟨_, _, _, k3, k4, k5, _⟩ := rcell hcv
    have o2 := only_put (only_put (only_put (Only.refl (fun k => k = b) v) 5 (.int .i64 0)) 4 (.int .i64 (m.run + 1))) 4 (.int .i64 0)
    refine ⟨⟨k4, k5, k3, fun j => frozen_of_row v b j _ _ hcv⟩, ⟨hok, ?_, ?_, h.low, h.apart⟩, (on.mono (G := fun k => k = b ∨ k = p) (fun _ _ e => .inr e)).trans o2 (fun _ _ e => .inl e)⟩
    · rw [hm1]
      exact rset_run (rset_run (rset_quiet hcv 0) (m.run + 1)) 0
    · rw [hm1]
      exact hv.only o2 (fun k hk => by have := h.low; omega) h.apart)
  have HOK := Lib.hid hok
  clear h hok hr hbase hm1 hrun c0 c1 c2 c4 c5 c6
  go_enter Try.func14, Try.ntmps14
  go_wp2_with fail
  refine hn.mono ?_
  rintro e v ⟨rfl, hv, on⟩
  clear hn c3
  obtain ⟨⟨k4, k5, k3, kz⟩, rm, o2⟩ := STEP.out v hv on
  have z4 := kz 4
  have z5 := kz 5
  clear STEP hv on kz
  have cb := bad_calls rm.win (by decide)
  have RMH := Lib.hid (And.intro rm o2)
  have k3b := (rcell rm.cells).2.2.2.1
  clear rm o2
  go_wp2_with fail
  generalize (((v.setCell ⟨b, 5, none⟩ (.int .i64 0)).setCell ⟨b, 4, none⟩ (.int .i64 (m.run + 1))).setCell ⟨b, 4, none⟩ (.int .i64 0)) = u at *
  refine cb.mono ?_
  rintro e w' ⟨rfl, rfl⟩
  clear cb k4 k5 k3 z4 z5 k3b hq1
  obtain ⟨c0, c1, c2, c3, c4, c5, c6⟩ := rcell RMH.out.1.cells
  have z6 := frozen_of_row w' b 6 _ _ RMH.out.1.cells
  clear c2 c5
  have FIN := Lib.hid (show ∀ j, RM (w'.drewN j) base p b m1 ∧ Only (fun k => k = b ∨ k = p) w (w'.drewN j) from fun j => ⟨RMH.out.1.drewN j, RMH.out.2.drewN j⟩)
  clear RMH HOK
  go_upto_region 7 with (fail)
  go_quiet (fail)
  go_wp2
  all_goals
    go_ret
    exact ⟨rfl, FIN.out _⟩
theorem rnote_true (h : RM w base p b m) (hr : m.run < 4294967295) (hbase : base ≤ w.heap.size) : Calls Try.prog 14 #[.pointer (some ⟨b, 0, none⟩), .bool true] w fun e w' =>
    e = .returned (.int .i64 (m.note true).st) ∧ RM w' base p b (m.note true) ∧ Only (fun k => k = b ∨ k = p) w w' := by
  unfold Mo.note
  generalize hm : m.hear true = m1
  have hm := hm.symm
  unfold Mo.judge
  by_cases g0 : m1.st = 0
  · rw [if_neg (fun e => e.1 g0)]
    by_cases g1 : m1.bad ≤ bl m1.L
    · rw [if_pos g1]
      exact rnote_ga h hr hbase m1 hm g0 g1
    · rw [if_neg g1]
      by_cases g2 : m1.bad ≤ 2 * bl m1.L
      · rw [if_pos ⟨g0, g2⟩]
        exact rnote_gb h hr hbase m1 hm g0 g1 g2
      · rw [if_neg (fun e => g2 e.2)]
        exact rnote_gc h hr hbase m1 hm g0 g1 g2
  · by_cases g : m1.good ≤ m1.run
    · rw [if_pos ⟨g0, g⟩]
      exact rnote_gd h hr hbase m1 hm g0 g
    · rw [if_neg (fun e => g e.2)]
      by_cases g1 : m1.bad ≤ bl m1.L
      · rw [if_pos g1]
        exact rnote_ge h hr hbase m1 hm g0 g g1
      · rw [if_neg g1, if_neg (fun e => g0 e.1)]
        exact rnote_gf h hr hbase m1 hm g0 g g1
theorem rnote_false (h : RM w base p b m) (hr : m.run < 4294967295) (hbase : base ≤ w.heap.size) : Calls Try.prog 14 #[.pointer (some ⟨b, 0, none⟩), .bool false] w fun e w' =>
    e = .returned (.int .i64 (m.note false).st) ∧ RM w' base p b (m.note false) ∧ Only (fun k => k = b ∨ k = p) w w' := by
  unfold Mo.note
  generalize hm : m.hear false = m1
  have hm := hm.symm
  unfold Mo.judge
  by_cases g0 : m1.st = 0
  · rw [if_neg (fun e => e.1 g0)]
    by_cases g1 : m1.bad ≤ bl m1.L
    · rw [if_pos g1]
      exact rnote_ba h hr hbase m1 hm g0 g1
    · rw [if_neg g1]
      by_cases g2 : m1.bad ≤ 2 * bl m1.L
      · rw [if_pos ⟨g0, g2⟩]
        exact rnote_bb h hr hbase m1 hm g0 g1 g2
      · rw [if_neg (fun e => g2 e.2)]
        exact rnote_bc h hr hbase m1 hm g0 g1 g2
  · by_cases g : m1.good ≤ m1.run
    · rw [if_pos ⟨g0, g⟩]
      exact rnote_bd h hr hbase m1 hm g0 g
    · rw [if_neg (fun e => g e.2)]
      by_cases g1 : m1.bad ≤ bl m1.L
      · rw [if_pos g1]
        exact rnote_be h hr hbase m1 hm g0 g g1
      · rw [if_neg g1, if_neg (fun e => g0 e.1)]
        exact rnote_bf h hr hbase m1 hm g0 g g1
theorem rnote_calls (h : RM w base p b m) (ok : Bool) (hr : m.run < 4294967295) (hbase : base ≤ w.heap.size) : Calls Try.prog 14 #[.pointer (some ⟨b, 0, none⟩), .bool ok] w fun e w' =>
    e = .returned (.int .i64 (m.note ok).st) ∧ RM w' base p b (m.note ok) ∧ Only (fun k => k = b ∨ k = p) w w' := by
  cases ok
  · exact rnote_false h hr hbase
  · exact rnote_true h hr hbase
end
end Go.Proofs.Ytnjmnklkbldmgaa

/- judge of a monitor of the program. No condition. -/
import Derived.Test.YtnjmnklkbldmgaaMonMem
import Derived.Laws.FloatArith
namespace Go.Proofs.Ytnjmnklkbldmgaa
open Go.RowKit
set_option linter.unusedVariables false

theorem fl_two : fl 2 = 4611686018427387904 := by decide +kernel
theorem mul_two_fin : ∀ k : Fin 17, floatBits .mul .f64 4611686018427387904 (fl (k.val : Int)) = some (fl (2 * (k.val : Int))) := by decide +kernel
theorem mul_two {b : Int} (h0 : 0 ≤ b) (h1 : b ≤ 16) : floatBits .mul .f64 4611686018427387904 (fl b) = some (fl (2 * b)) := by
  have := mul_two_fin ⟨b.toNat, by omega⟩
  rwa [show ((⟨b.toNat, by omega⟩ : Fin 17).val : Int) = b from Int.toNat_of_nonneg h0] at this
theorem run_two {b : Int} (h0 : 0 ≤ b) (h1 : b ≤ 16) (t : TypeId) (w : World) : (binOp .mul t (.float .f64 4611686018427387904) (.float .f64 (fl b))).run Try.prog w = .ok (.float .f64 (fl (2 * b))) w :=
  run_float_arith w _ t _ _ _ _ (mul_two h0 h1)
/-- at least, of floats of small whole numbers: the order that says so -/
theorem ord_ge {a b : Int} (ha : 0 ≤ a ∧ a ≤ 4294967295) (hb : 0 ≤ b ∧ b ≤ 4294967295) (h : b ≤ a) : FloatKind.f64.format.order (fl a) (fl b) = some .gt ∨ FloatKind.f64.format.order (fl a) (fl b) = some .eq := by
  rcases Int.lt_or_eq_of_le h with h | rfl
  · exact .inl (ord_gt (by omega) (by omega) h)
  · exact .inr (ord_eq (by omega))
theorem PM.setSt {w : World} {b : Nat} {m : Mo} (h : PM w b m) (s : Int) (hs : 0 ≤ s ∧ s ≤ 2) : PM (w.setCell ⟨b, 2, none⟩ (.int .i64 s)) b { m with st := s } :=
  ⟨h.1.setA2 _, h.2.bad, h.2.good, h.2.silent, hs, h.2.short, h.2.run, h.2.quiet⟩
section
variable {w : World} {b : Nat} {m : Mo}
set_option maxRecDepth 20000 in
set_option maxHeartbeats 400000 in
theorem judge_a (h : PM w b m) (g0 : m.st = 0) (g1 : m.bad ≤ bl m.L) : Calls Try.prog 26 #[.pointer (some ⟨b, 0, none⟩)] w fun e w' =>
    e = .returned (.tuple #[]) ∧ PM w' b { m with st := 2 } ∧ Only (fun k => k = b) w w' := by
  have hs := xsum_calls h.1
  rw [gs_rep, bs_rep] at hs
  have h1 := h.2.bad
  have h2 := h.2.good
  have h3 := h.2.run
  have h4 := bl_range m.L
  have h5 := h.2.short
  have o1 := ord_ge (a := bl m.L) (b := m.bad) (by omega) (by omega) g1
  obtain ⟨c0, c1, c2, c3, c4⟩ := h.cells
  have z2 := h.1.frozen 2
  have hmul := fun t w => run_two (b := bl m.L) (by omega) (by omega) t w
  unfold cx at c0 c3 hs
  rw [g0] at c2
  have FIN := Lib.hid (show ∀ j, PM ((w.drewN j).setCell ⟨b, 2, none⟩ (.int .i64 2)) b { m with st := 2 } ∧ Only (fun k => k = b) w ((w.drewN j).setCell ⟨b, 2, none⟩ (.int .i64 2)) from fun j => ⟨PM.setSt (w := w.drewN j) h 2 (by decide), only_put ((Only.refl _ w).drewN j) _ _⟩)
  clear h h1 h2 h3 h4 h5 c1 c4 g0
  rcases o1 with o1 | o1
  all_goals
    go_enter Try.func26, Try.ntmps26
    go_wp2_with fail
    refine hs.mono ?_
    rintro e w' ⟨rfl, rfl⟩
    clear hs
    go_upto_region 1 with (fail)
    go_quiet (fail)
    go_wp2
    go_end0
    exact ⟨rfl, FIN.out _⟩
set_option maxRecDepth 20000 in
set_option maxHeartbeats 400000 in
theorem judge_b (h : PM w b m) (g0 : m.st = 0) (g1 : ¬ m.bad ≤ bl m.L) (g2 : m.bad ≤ 2 * bl m.L) : Calls Try.prog 26 #[.pointer (some ⟨b, 0, none⟩)] w fun e w' =>
    e = .returned (.tuple #[]) ∧ PM w' b { m with st := 1 } ∧ Only (fun k => k = b) w w' := by
  have hs := xsum_calls h.1
  rw [gs_rep, bs_rep] at hs
  have h1 := h.2.bad
  have h2 := h.2.good
  have h3 := h.2.run
  have h4 := bl_range m.L
  have h5 := h.2.short
  have o1 := ord_lt (a := bl m.L) (b := m.bad) (by omega) (by omega) (by omega)
  have o2 := ord_ge (a := 2 * bl m.L) (b := m.bad) (by omega) (by omega) g2
  obtain ⟨c0, c1, c2, c3, c4⟩ := h.cells
  have z2 := h.1.frozen 2
  have hmul := fun t w => run_two (b := bl m.L) (by omega) (by omega) t w
  unfold cx at c0 c3 hs
  rw [g0] at c2
  have FIN := Lib.hid (show ∀ j, PM ((w.drewN j).setCell ⟨b, 2, none⟩ (.int .i64 1)) b { m with st := 1 } ∧ Only (fun k => k = b) w ((w.drewN j).setCell ⟨b, 2, none⟩ (.int .i64 1)) from fun j => ⟨PM.setSt (w := w.drewN j) h 1 (by decide), only_put ((Only.refl _ w).drewN j) _ _⟩)
  clear h h1 h2 h3 h4 h5 c1 c4 g0
  rcases o2 with o2 | o2
  all_goals
    go_enter Try.func26, Try.ntmps26
    go_wp2_with fail
    refine hs.mono ?_
    rintro e w' ⟨rfl, rfl⟩
    clear hs
    go_upto_region 1 with (fail)
    go_quiet (fail)
    go_wp2
    go_end0
    exact ⟨rfl, FIN.out _⟩
set_option maxRecDepth 20000 in
set_option maxHeartbeats 400000 in
theorem judge_c (h : PM w b m) (g0 : m.st = 0) (g1 : ¬ m.bad ≤ bl m.L) (g2 : ¬ m.bad ≤ 2 * bl m.L) : Calls Try.prog 26 #[.pointer (some ⟨b, 0, none⟩)] w fun e w' =>
    e = .returned (.tuple #[]) ∧ PM w' b m ∧ Only (fun k => k = b) w w' := by
  have hs := xsum_calls h.1
  rw [gs_rep, bs_rep] at hs
  have h1 := h.2.bad
  have h2 := h.2.good
  have h3 := h.2.run
  have h4 := bl_range m.L
  have h5 := h.2.short
  have o1 := ord_lt (a := bl m.L) (b := m.bad) (by omega) (by omega) (by omega)
  have o2 := ord_lt (a := 2 * bl m.L) (b := m.bad) (by omega) (by omega) (by omega)
  obtain ⟨c0, c1, c2, c3, c4⟩ := h.cells
  have z2 := h.1.frozen 2
  have hmul := fun t w => run_two (b := bl m.L) (by omega) (by omega) t w
  unfold cx at c0 c3 hs
  rw [g0] at c2
  have FIN := Lib.hid (show ∀ j, PM (w.drewN j) b m ∧ Only (fun k => k = b) w (w.drewN j) from fun j => ⟨h, (Only.refl _ w).drewN j⟩)
  clear h h1 h2 h3 h4 h5 c1 c4 g0
  go_enter Try.func26, Try.ntmps26
  go_wp2_with fail
  refine hs.mono ?_
  rintro e w' ⟨rfl, rfl⟩
  clear hs
  go_upto_region 1 with (fail)
  go_quiet (fail)
  go_wp2
  go_end0
  exact ⟨rfl, FIN.out _⟩
set_option maxRecDepth 20000 in
set_option maxHeartbeats 400000 in
theorem judge_d (h : PM w b m) (g0 : ¬ m.st = 0) (g1 : m.good ≤ m.run) : Calls Try.prog 26 #[.pointer (some ⟨b, 0, none⟩)] w fun e w' =>
    e = .returned (.tuple #[]) ∧ PM w' b { m with L := [], st := 0 } ∧ Only (fun k => k = b) w w' := by
  have hs := xsum_calls h.1
  rw [gs_rep, bs_rep] at hs
  have h1 := h.2.bad
  have h2 := h.2.good
  have h3 := h.2.run
  have h4 := bl_range m.L
  have h5 := h.2.short
  have o1 := ord_ge (a := m.run) (b := m.good) (by omega) (by omega) g1
  obtain ⟨c0, c1, c2, c3, c4⟩ := h.cells
  have z2 := h.1.frozen 2
  have hmul := fun t w => run_two (b := bl m.L) (by omega) (by omega) t w
  unfold cx at c0 c3 hs
  have hcl : ∀ j, Calls Try.prog 35 #[.pointer (some ⟨b, 3, none⟩)] (w.drewN j) fun e w' => e = .returned (.tuple #[]) ∧ PM w' b { m with L := [] } ∧ Only (fun k => k = b) w w' := fun j => by
    refine (xclear_calls (w := w.drewN j) h.1 (by decide)).mono ?_
    rintro e w' ⟨rfl, hx, on⟩
    rw [← rep_nil] at hx
    exact ⟨rfl, ⟨hx, h.2.bad, h.2.good, h.2.silent, h.2.st, Nat.zero_le _, h.2.run, h.2.quiet⟩, ⟨on.os, on.tape, on.output, on.size, on.block⟩⟩
  clear h h1 h2 h3 h4 h5 c1 c4
  rcases o1 with o1 | o1
  all_goals
    go_enter Try.func26, Try.ntmps26
    go_wp2_with fail
    refine hs.mono ?_
    rintro e w' ⟨rfl, rfl⟩
    clear hs
    go_upto_region 1 with (fail)
    go_quiet (fail)
    go_wp2_with fail
    refine (hcl _).mono ?_
    rintro e w2 ⟨rfl, hp2, on⟩
    clear hcl c0 c2 c3 z2
    have z2 := hp2.1.frozen 2
    have c2 := hp2.cells.2.2.1
    have FIN := Lib.hid (show PM (w2.setCell ⟨b, 2, none⟩ (.int .i64 0)) b { m with L := [], st := 0 } ∧ Only (fun k => k = b) _ (w2.setCell ⟨b, 2, none⟩ (.int .i64 0)) from ⟨PM.setSt hp2 0 (by decide), only_put on _ _⟩)
    clear hp2 on
    go_wp2
    go_end0
    exact ⟨rfl, FIN.out⟩
set_option maxRecDepth 20000 in
set_option maxHeartbeats 400000 in
theorem judge_e (h : PM w b m) (g0 : ¬ m.st = 0) (g : ¬ m.good ≤ m.run) (g1 : m.bad ≤ bl m.L) : Calls Try.prog 26 #[.pointer (some ⟨b, 0, none⟩)] w fun e w' =>
    e = .returned (.tuple #[]) ∧ PM w' b { m with st := 2 } ∧ Only (fun k => k = b) w w' := by
  have hs := xsum_calls h.1
  rw [gs_rep, bs_rep] at hs
  have h1 := h.2.bad
  have h2 := h.2.good
  have h3 := h.2.run
  have h4 := bl_range m.L
  have h5 := h.2.short
  have o0 := ord_lt (a := m.run) (b := m.good) (by omega) (by omega) (by omega)
  have o1 := ord_ge (a := bl m.L) (b := m.bad) (by omega) (by omega) g1
  obtain ⟨c0, c1, c2, c3, c4⟩ := h.cells
  have z2 := h.1.frozen 2
  have hmul := fun t w => run_two (b := bl m.L) (by omega) (by omega) t w
  unfold cx at c0 c3 hs
  have FIN := Lib.hid (show ∀ j, PM ((w.drewN j).setCell ⟨b, 2, none⟩ (.int .i64 2)) b { m with st := 2 } ∧ Only (fun k => k = b) w ((w.drewN j).setCell ⟨b, 2, none⟩ (.int .i64 2)) from fun j => ⟨PM.setSt (w := w.drewN j) h 2 (by decide), only_put ((Only.refl _ w).drewN j) _ _⟩)
  clear h h1 h2 h3 h4 h5 c1 c4
  rcases o1 with o1 | o1
  all_goals
    go_enter Try.func26, Try.ntmps26
    go_wp2_with fail
    refine hs.mono ?_
    rintro e w' ⟨rfl, rfl⟩
    clear hs
    go_upto_region 1 with (fail)
    go_quiet (fail)
    go_wp2
    go_end0
    exact ⟨rfl, FIN.out _⟩
set_option maxRecDepth 20000 in
set_option maxHeartbeats 400000 in
theorem judge_f (h : PM w b m) (g0 : ¬ m.st = 0) (g : ¬ m.good ≤ m.run) (g1 : ¬ m.bad ≤ bl m.L) : Calls Try.prog 26 #[.pointer (some ⟨b, 0, none⟩)] w fun e w' =>
    e = .returned (.tuple #[]) ∧ PM w' b m ∧ Only (fun k => k = b) w w' := by
  have hs := xsum_calls h.1
  rw [gs_rep, bs_rep] at hs
  have h1 := h.2.bad
  have h2 := h.2.good
  have h3 := h.2.run
  have h4 := bl_range m.L
  have h5 := h.2.short
  have o0 := ord_lt (a := m.run) (b := m.good) (by omega) (by omega) (by omega)
  have o1 := ord_lt (a := bl m.L) (b := m.bad) (by omega) (by omega) (by omega)
  obtain ⟨c0, c1, c2, c3, c4⟩ := h.cells
  have z2 := h.1.frozen 2
  have hmul := fun t w => run_two (b := bl m.L) (by omega) (by omega) t w
  unfold cx at c0 c3 hs
  have FIN := Lib.hid (show ∀ j, PM (w.drewN j) b m ∧ Only (fun k => k = b) w (w.drewN j) from fun j => ⟨h, (Only.refl _ w).drewN j⟩)
  clear h h1 h2 h3 h4 h5 c1 c4
  go_enter Try.func26, Try.ntmps26
  go_wp2_with fail
  refine hs.mono ?_
  rintro e w' ⟨rfl, rfl⟩
  clear hs
  go_upto_region 1 with (fail)
  go_quiet (fail)
  go_wp2
  go_end0
  exact ⟨rfl, FIN.out _⟩
theorem judge_calls (h : PM w b m) : Calls Try.prog 26 #[.pointer (some ⟨b, 0, none⟩)] w fun e w' =>
    e = .returned (.tuple #[]) ∧ PM w' b m.judge ∧ Only (fun k => k = b) w w' := by
  unfold Mo.judge
  by_cases g0 : m.st = 0
  · rw [if_neg (fun e => e.1 g0)]
    by_cases g1 : m.bad ≤ bl m.L
    · rw [if_pos g1]
      exact judge_a h g0 g1
    · rw [if_neg g1]
      by_cases g2 : m.bad ≤ 2 * bl m.L
      · rw [if_pos ⟨g0, g2⟩]
        exact judge_b h g0 g1 g2
      · rw [if_neg (fun e => g2 e.2)]
        exact judge_c h g0 g1 g2
  · by_cases g : m.good ≤ m.run
    · rw [if_pos ⟨g0, g⟩]
      exact judge_d h g0 g
    · rw [if_neg (fun e => g e.2)]
      by_cases g1 : m.bad ≤ bl m.L
      · rw [if_pos g1]
        exact judge_e h g0 g g1
      · rw [if_neg g1, if_neg (fun e => g0 e.1)]
        exact judge_f h g0 g g1
end
end Go.Proofs.Ytnjmnklkbldmgaa

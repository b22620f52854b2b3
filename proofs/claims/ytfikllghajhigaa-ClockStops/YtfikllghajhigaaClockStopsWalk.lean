/- ClockStops: the law's walk. No condition. -/
import Derived.Test.YtfikllghajhigaaClkOne
namespace Go.Proofs.Ytfikllghajhigaa
open Go.Proofs Go.RowKit Go.Lib Go.Sort
set_option linter.unusedVariables false

theorem cut_nat {lo : Int} {a : Nat} (h : lo ≤ (a : Int)) (h' : a ≤ 1073741824) : cut lo (a : Int) = a := by unfold cut; omega
set_option maxHeartbeats 1000000 in
theorem ClockStops_main (a t g : Nat) (stop : Bool) (h1 : 2 ≤ a) (h2 : a ≤ 1000) (h3 : 1 ≤ t) (h4 : t < a) (h5 : 1 ≤ g) (h6 : g ≤ 1000) (w : World) :
    Calls Try.prog 6 #[.int .i64 (a : Int), .int .i64 (t : Int), .int .i64 (g : Int), .bool stop] w fun e w' => e = .returned (.bool true) ∧ Below w.heap.size w w' := by
  have al := alive_calls w
  have g1 : ¬ (a : Int) < 2 := by omega
  have g2 : ¬ 1000 < (a : Int) := by omega
  have g3 : ¬ (t : Int) < 1 := by omega
  have g4 : ¬ (a : Int) ≤ (t : Int) := by omega
  have g5 : ¬ (g : Int) < 1 := by omega
  have g6 : ¬ 1000 < (g : Int) := by omega
  go_enter Try.func6, Try.ntmps6
  go_wp2_with fail
  refine al.mono ?_
  rintro e W ⟨rfl, bel⟩
  clear al
  obtain ⟨w1, hw1⟩ : ∃ w1, W.alloc (.cells (cc 0 nought) 45) = w1 := ⟨_, rfl⟩
  have hp : CS w1 45 W.heap.size 0 nought := by rw [← hw1]; exact CS.fresh W _ (by decide)
  have hnew := new_calls 0 W
  rw [hw1] at hnew
  obtain ⟨p, hpp⟩ : ∃ p, p = W.heap.size := ⟨_, rfl⟩
  rw [← hpp] at hnew hp
  have HB := Lib.hid (show Below w.heap.size w w1 ∧ w.heap.size ≤ p from ⟨by rw [← hw1]; exact bel.alloc bel.size _, by rw [hpp]; exact bel.size⟩)
  have hst := start_calls hp 1 (a : Int)
  rw [show startL nought 1 (a : Int) = one 1 (cut 1 (a : Int)) from nought_start 1 _, cut_nat (by omega) (by omega)] at hst
  clear hw1 hp hpp bel
  go_wp2_with fail
  refine hnew.mono ?_
  rintro e w' ⟨rfl, rfl⟩
  clear hnew
  go_wp2_with fail
  refine hst.mono ?_
  rintro e w2 ⟨rfl, hp2, on⟩
  clear hst
  have hps := pass_calls hp2 (t : Int)
  rw [cut_nat (by omega) (by omega), one_less] at hps
  have HB2 := Lib.hid (show Below w.heap.size w w2 ∧ w.heap.size ≤ p from ⟨HB.out.1.trans (on.below (fun k hk => by have := HB.out.2; omega) HB.out.1.size), HB.out.2⟩)
  clear hp2 on HB
  go_wp2_with fail
  refine hps.mono ?_
  rintro e w3 ⟨A, c, L, rfl, hE, hR, hA, hp3, on⟩
  clear hps
  obtain rfl := exp_none hE (.inr h4)
  have HB3 := Lib.hid (show Below w.heap.size w w3 ∧ w.heap.size ≤ p from ⟨HB2.out.1.trans (on.below (fun k hk => by have := HB2.out.2; omega) HB2.out.1.size), HB2.out.2⟩)
  have HP3 := Lib.hid hp3
  have hlf := left_calls hp3 1
  rw [show leftL (one 1 (a - t)) 1 = (((a - t : Nat) : Nat) : Int) from one_left 1 _, show runs (one 1 (a - t)) 1 = true from by rw [show runs (one 1 (a - t)) 1 = decide (0 < a - t) from one_runs 1 _]; exact decide_eq_true (by omega)] at hlf
  clear hE hR hA hp3 on HB2
  go_wp2_with fail
  refine hlf.mono ?_
  rintro e w' ⟨rfl, rfl⟩
  clear hlf
  have hsub : (a : Int) - (t : Int) = ((a - t : Nat) : Int) := by omega
  obtain ⟨m, hm⟩ : ∃ m, m = a - t := ⟨_, rfl⟩
  have hm0 : 0 < m := by omega
  rw [← hm] at HP3 hsub ⊢
  clear hm
  cases stop with
  | true =>
    have hs1 := stop_calls HP3.out 1
    rw [show runs (one 1 m) 1 = true from by rw [show runs (one 1 m) 1 = decide (0 < m) from one_runs 1 _]; exact decide_eq_true hm0, show stopL (one 1 m) 1 = one 1 0 from one_stop 1 _] at hs1
    go_wp2_with fail
    refine hs1.mono ?_
    rintro e w4 ⟨rfl, hp4, on⟩
    have HB4 := Lib.hid (show Below w.heap.size w w4 ∧ w.heap.size ≤ p from ⟨HB3.out.1.trans (on.below (fun k hk => by have := HB3.out.2; omega) HB3.out.1.size), HB3.out.2⟩)
    have hs2 := stop_calls hp4 1
    rw [show runs (one 1 0) 1 = false from by decide, show stopL (one 1 0) 1 = one 1 0 from one_stop 1 _] at hs2
    clear hs1 hp4 on HB3
    go_wp2_with fail
    refine hs2.mono ?_
    rintro e w5 ⟨rfl, hp5, on⟩
    have HB5 := Lib.hid (show Below w.heap.size w w5 ∧ w.heap.size ≤ p from ⟨HB4.out.1.trans (on.below (fun k hk => by have := HB4.out.2; omega) HB4.out.1.size), HB4.out.2⟩)
    have hps := pass_calls hp5 2000
    clear hs2 hp5 on HB4
    go_wp2_with fail
    refine hps.mono ?_
    rintro e w6 ⟨A', c', L, rfl, hE, hR, hA, -, on⟩
    obtain rfl := exp_none hE (.inl rfl)
    have FIN := Lib.hid (show Below w.heap.size w w6 from HB5.out.1.trans (on.below (fun k hk => by have := HB5.out.2; omega) HB5.out.1.size))
    clear hE hR hA on HB5 hps
    go_wp2
    go_ret
    exact ⟨rfl, FIN.out⟩
  | false =>
    have hs1 := start_calls HP3.out 1 (g : Int)
    rw [show startL (one 1 m) 1 (g : Int) = one 1 (cut 1 (g : Int)) from one_start 1 _ _, cut_nat (by omega) (by omega)] at hs1
    go_wp2_with fail
    refine hs1.mono ?_
    rintro e w4 ⟨rfl, hp4, on⟩
    have HB4 := Lib.hid (show Below w.heap.size w w4 ∧ w.heap.size ≤ p from ⟨HB3.out.1.trans (on.below (fun k hk => by have := HB3.out.2; omega) HB3.out.1.size), HB3.out.2⟩)
    have hps := pass_calls hp4 ((g - 1 : Nat) : Int)
    rw [cut_nat (by omega) (by omega), one_less, show g - (g - 1) = 1 by omega] at hps
    have hg1 : (g : Int) - 1 = ((g - 1 : Nat) : Int) := by omega
    clear hs1 hp4 on HB3
    go_wp2_with fail
    refine hps.mono ?_
    rintro e w5 ⟨A', c', L, rfl, hE, hR, hA, hp5, on⟩
    obtain rfl := exp_none hE (.inr (by omega))
    have HB5 := Lib.hid (show Below w.heap.size w w5 ∧ w.heap.size ≤ p from ⟨HB4.out.1.trans (on.below (fun k hk => by have := HB4.out.2; omega) HB4.out.1.size), HB4.out.2⟩)
    have hps2 := pass_calls hp5 1
    rw [show cut 0 1 = 1 from by decide] at hps2
    clear hE hR hA hp5 on HB4 hps
    go_wp2_with fail
    refine hps2.mono ?_
    rintro e w6 ⟨A2, c2, L, rfl, hE, hR, hA, -, on⟩
    obtain rfl := exp_yes hE (by decide) (by decide)
    obtain ⟨q, off, rfl, hc⟩ := rd_one hR
    have FIN := Lib.hid (show Below w.heap.size w w6 from HB5.out.1.trans (on.below (fun k hk => by have := HB5.out.2; omega) HB5.out.1.size))
    clear hE hR hA on HB5 hps2
    go_wp2
    go_ret
    exact ⟨rfl, FIN.out⟩
theorem ClockStops_far (a t g : Int) (stop : Bool) (h : a < 2 ∨ (¬ a < 2 ∧ 1000 < a) ∨ (¬ a < 2 ∧ ¬ 1000 < a ∧ t < 1) ∨ (¬ a < 2 ∧ ¬ 1000 < a ∧ ¬ t < 1 ∧ a ≤ t) ∨ (¬ a < 2 ∧ ¬ 1000 < a ∧ ¬ t < 1 ∧ ¬ a ≤ t ∧ g < 1) ∨ (¬ a < 2 ∧ ¬ 1000 < a ∧ ¬ t < 1 ∧ ¬ a ≤ t ∧ ¬ g < 1 ∧ 1000 < g)) (w : World) :
    Calls Try.prog 6 #[.int .i64 a, .int .i64 t, .int .i64 g, .bool stop] w fun e w' => e = .returned (.bool true) ∧ Below w.heap.size w w' := by
  have al := alive_calls w
  rcases h with h1 | ⟨h1, h2⟩ | ⟨h1, h2, h3⟩ | ⟨h1, h2, h3, h4⟩ | ⟨h1, h2, h3, h4, h5⟩ | ⟨h1, h2, h3, h4, h5, h6⟩
  all_goals
    go_enter Try.func6, Try.ntmps6
    go_wp2_with fail
    refine al.mono ?_
    rintro e W ⟨rfl, bel⟩
    have FIN := Lib.hid bel
    clear al bel
    go_wp2
    go_ret
    exact ⟨rfl, FIN.out⟩
theorem ClockStops_walk (a t g : Int) (stop : Bool) (w0 : (Lit.int .i64 a).wf = true) (w1 : (Lit.int .i64 t).wf = true) (w2 : (Lit.int .i64 g).wf = true) (w : World) :
    Calls Try.prog 6 #[.int .i64 a, .int .i64 t, .int .i64 g, .bool stop] w fun e w' => e = .returned (.bool true) ∧ Below w.heap.size w w' := by
  by_cases h : 2 ≤ a ∧ a ≤ 1000 ∧ 1 ≤ t ∧ t < a ∧ 1 ≤ g ∧ g ≤ 1000
  · obtain ⟨h1, h2, h3, h4, h5, h6⟩ := h
    obtain ⟨a', rfl⟩ : ∃ k : Nat, a = (k : Int) := ⟨a.toNat, by omega⟩
    obtain ⟨t', rfl⟩ : ∃ k : Nat, t = (k : Int) := ⟨t.toNat, by omega⟩
    obtain ⟨g', rfl⟩ : ∃ k : Nat, g = (k : Int) := ⟨g.toNat, by omega⟩
    exact ClockStops_main a' t' g' stop (by omega) (by omega) (by omega) (by omega) (by omega) (by omega) w
  · exact ClockStops_far a t g stop (by omega) w
end Go.Proofs.Ytfikllghajhigaa

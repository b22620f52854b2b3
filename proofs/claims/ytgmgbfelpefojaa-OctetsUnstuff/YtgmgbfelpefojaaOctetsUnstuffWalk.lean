/- The law OctetsUnstuff, walked. Condition: the slice reads as its octets. -/
import Derived.Test.YtgmgbfelpefojaaOctAlive
namespace Go.Proofs.Ytgmgbfelpefojaa
open Go.RowKit
open Oct
set_option linter.unusedVariables false

theorem OctetsUnstuff_far (A : Option Addr) (n c : Nat) (w : World) (hl : 500 < n) (hm : n ≤ 9223372036854775807) :
    Calls Try.prog 4 #[.slice A n c] w fun e w' => e = .returned (.bool true) ∧ Below w.heap.size w w' := by
  go_enter Try.func4, Try.ntmps4
  go_wp2_with fail
  refine (alive_calls w).mono ?_
  rintro e w' ⟨rfl, hb⟩
  go_wp2
  go_ret
  exact ⟨rfl, hb⟩
theorem OctetsUnstuff_near (A : Option Addr) (c : Nat) (l : List UInt8) (w : World) (hr : Rd w A l) (hl : l.length ≤ 500) :
    Calls Try.prog 4 #[.slice A l.length c] w fun e w' => e = .returned (.bool true) ∧ Below w.heap.size w w' := by
  go_enter Try.func4, Try.ntmps4
  go_wp2_with fail
  refine (alive_calls w).mono ?_
  rintro e W ⟨rfl, hb⟩
  obtain ⟨A1, c1, w1, run1, own1, bel1⟩ := run_app W W.heap.size none 0 [] (Own.nil _ _) A c l (hr.below hb) (by simp; omega) (Nat.le_refl _)
  rw [List.nil_append] at run1 own1
  have b1 := hb.trans (bel1.mono hb.size)
  have r1 := own1.rd
  clear own1
  go_wp2_with (at_builtin; refine Lib.wpList_append_run _ rfl _ _ _ _ rfl _ _ rfl rfl _ _ (run1 _) ?_)
  refine (unstuff_calls A1 c1 l w1 r1 (by omega)).mono ?_
  rintro e w2 ⟨B, d, rfl, hB, hb2⟩
  clear run1
  have b2 := b1.trans (hb2.mono b1.size)
  go_wp2_with fail
  refine (refUnstuff_calls A c l w2 (hr.below b2) (by omega)).mono ?_
  rintro e w3 ⟨B', d', rfl, hB', hb3⟩
  have b3 := b2.trans (hb3.mono b2.size)
  generalize un false [] l = r at *
  have q1 := run_conv w3 B d _ (hB.below hb3)
  have q2 := run_conv w3 B' d' _ hB'
  unfold strV at q1 q2
  go_wp2_with fail
  refine (num_calls _ w3).mono ?_
  rintro e w' ⟨rfl, rfl⟩
  go_wp2
  go_ret
  exact ⟨rfl, b3⟩
theorem OctetsUnstuff_walk (a0 : Option Addr) (len0 cap0 : Nat) (z0 : List Int) (w : World)
    (h : (a0 = none ∧ len0 = 0 ∧ cap0 = 0 ∧ z0 = []) ∨ ∃ x, a0 = some x ∧ len0 ≤ cap0 ∧ cap0 ≤ maxLen ∧ z0.length = cap0 ∧ (∀ i, i < z0.length → w.cell? (x.add i) = some (.int .u8 (z0.getD i 0))) ∧ ∀ n ∈ z0, (Lit.int .u8 n).wf = true) :
    Calls Try.prog 4 #[.slice a0 len0 cap0] w fun e w' => e = .returned (.bool true) ∧ Below w.heap.size w w' := by
  obtain ⟨l, rfl, hc, hm, hr⟩ := Rd.of_row h
  by_cases hl : l.length ≤ 500
  · exact OctetsUnstuff_near a0 cap0 l w hr hl
  · exact OctetsUnstuff_far a0 l.length cap0 w (by omega) (by unfold maxLen at hm; omega)
end Go.Proofs.Ytgmgbfelpefojaa

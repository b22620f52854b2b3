/- A clock of which one timer runs; the example of the document, walked. No condition. -/
import Derived.Test.YtfikllghajhigaaClkPass
namespace Go.Proofs.Ytfikllghajhigaa
open Go.Proofs Go.RowKit Go.Lib Go.Sort
set_option linter.unusedVariables false

/-- only the timer j runs, a steps -/
def one (j : Fin 32) (a : Nat) : List Nat := nought.set j.val a
theorem one_zero (j : Fin 32) : one j 0 = nought := by revert j; decide +kernel
theorem one_set (j : Fin 32) (a z : Nat) : (one j a).set j.val z = one j z := by unfold one; rw [List.set_set]
theorem one_len (j : Fin 32) (a : Nat) : (one j a).length = 32 := by simp [one, nought]
theorem key_one (j x : Fin 32) (a : Nat) : key (one j a) x = if x = j then a else 0 := by
  unfold key one nought
  have hx := x.isLt
  rw [List.getD_eq_getElem?_getD, List.getElem?_set]
  by_cases h : x = j
  · subst h
    simp
  · rw [if_neg (fun e => h (Fin.ext e.symm)), if_neg h, List.getElem?_replicate, if_pos hx]
    rfl
theorem one_getD (j : Fin 32) (a : Nat) : (one j a).getD j.val 0 = a := by have := key_one j j a; rw [if_pos rfl] at this; exact this
theorem one_less (j : Fin 32) (a t : Nat) : (one j a).map (· - t) = one j (a - t) := by
  unfold one nought
  rw [List.map_set, List.map_replicate]
  simp
theorem exp_none {j : Fin 32} {a t : Nat} {L : List (Fin 32)} (h : Exp (one j a) t L) (ha : a = 0 ∨ t < a) : L = [] := by
  refine h.unique ⟨List.Pairwise.nil, fun x => ?_⟩
  constructor
  · intro hx
    cases hx
  · rintro ⟨h1, h2⟩
    rw [key_one] at h1 h2
    by_cases e : x = j
    · rw [if_pos e] at h1 h2; omega
    · rw [if_neg e] at h1; omega
theorem exp_yes {j : Fin 32} {a t : Nat} {L : List (Fin 32)} (h : Exp (one j a) t L) (ha : 0 < a) (hb : a ≤ t) : L = [j] :=
  h.unique ⟨List.pairwise_singleton _ _, fun x => by
    unfold due
    rw [key_one, List.mem_singleton]
    constructor
    · rintro rfl
      rw [if_pos rfl]
      exact ⟨ha, hb⟩
    · rintro ⟨h1, h2⟩
      by_cases e : x = j
      · exact e
      · rw [if_neg e] at h1; omega⟩
theorem one_start (j : Fin 32) (a : Nat) (z : Int) : startL (one j a) ((j.val : Nat) : Int) z = one j (cut 1 z) := by
  have := j.isLt
  unfold startL
  rw [if_pos (by omega), Int.toNat_natCast, one_set]
theorem nought_start (j : Fin 32) (z : Int) : startL nought ((j.val : Nat) : Int) z = one j (cut 1 z) := by rw [← one_zero j]; exact one_start j 0 z
theorem one_runs (j : Fin 32) (a : Nat) : runs (one j a) ((j.val : Nat) : Int) = decide (0 < a) := by rw [runs_nat j.isLt, one_getD]
theorem one_stop (j : Fin 32) (a : Nat) : stopL (one j a) ((j.val : Nat) : Int) = one j 0 := by
  unfold stopL
  rw [one_runs, Int.toNat_natCast, one_set]
  by_cases h : 0 < a
  · rw [if_pos (decide_eq_true h)]
  · rw [if_neg (by simpa using h), show a = 0 by omega]
theorem one_left (j : Fin 32) (a : Nat) : leftL (one j a) ((j.val : Nat) : Int) = ((a : Nat) : Int) := by
  unfold leftL
  rw [one_runs, Int.toNat_natCast, one_getD]
  by_cases h : 0 < a
  · rw [if_pos (decide_eq_true h)]
  · rw [if_neg (by simpa using h), show a = 0 by omega]
    rfl
/-- one timer of a slice of one -/
theorem rd_one {w : World} {A : Option Addr} {j : Fin 32} (h : RdI w A (ints [j])) : ∃ g off, A = some ⟨g, off, none⟩ ∧ w.cell? ⟨g, off, none⟩ = some (.int .i64 ((j.val : Nat) : Int)) := by
  obtain ⟨g, off, e, _, hc⟩ := h.at_ (k := 0) (by simp [ints])
  exact ⟨g, off, e, by simpa [ints] using hc⟩

theorem alive_calls (w : World) : Calls Try.prog 7 #[] w fun e w' => e = .returned (.bool true) ∧ Below w.heap.size w w' := by
  obtain ⟨w1, hw1⟩ : ∃ w1, w.alloc (.cells (cc 0 nought) 45) = w1 := ⟨_, rfl⟩
  have hp : CS w1 45 w.heap.size 0 nought := by rw [← hw1]; exact CS.fresh w _ (by decide)
  have hB := Lib.hid (show Below w.heap.size w w1 by rw [← hw1]; exact (Below.refl _ _).alloc (Nat.le_refl _) _)
  have hnew := new_calls 0 w
  rw [hw1] at hnew
  have hst := start_calls hp 3 5
  rw [show startL nought 3 5 = one 3 5 from nought_start 3 5] at hst
  clear hw1 hp
  go_enter Try.func7, Try.ntmps7
  go_wp2_with fail
  refine hnew.mono ?_
  rintro e w' ⟨rfl, rfl⟩
  clear hnew
  go_wp2_with fail
  refine hst.mono ?_
  rintro e w2 ⟨rfl, hp2, on⟩
  clear hst
  have hps := pass_calls hp2 5
  rw [show cut 0 5 = 5 from by decide, show isT 3 = true from by decide] at *
  have hB2 := Lib.hid (show Below w.heap.size w w2 from hB.out.trans (on.below (fun k hk => by omega) hB.out.size))
  clear hp2 on hB
  go_wp2_with fail
  refine hps.mono ?_
  rintro e w3 ⟨A, c, L, rfl, hE, hR, hA, -, on⟩
  clear hps
  obtain rfl := exp_yes hE (by decide) (by decide)
  obtain ⟨g, off, rfl, hc⟩ := rd_one hR
  have FIN := Lib.hid (show Below w.heap.size w w3 from hB2.out.trans (on.below (fun k hk => by omega) hB2.out.size))
  clear hE hR hA on hB2
  go_wp2
  go_ret
  exact ⟨rfl, FIN.out⟩
end Go.Proofs.Ytfikllghajhigaa

/- The law RequestRanks returns true at every input: what is asked for, from the most urgent on. No condition. -/
import Derived.Test.YthjkeodjaggggaaReqWalks
import Derived.Deep.Cut
import Derived.Deep.QuietTactic
namespace Go.Proofs.Ythjkeodjaggggaa
open Go.RowKit
set_option linter.unusedVariables false
/-- what is asked, three numbers each; what it comes to; the line that this selects -/
def asked : List Int := [3, 2, 2, 2, 2, 2, 2, 2, 1, 2, 0, 0, 1, 2, 0, 1, 1, 0, 1, 0, 1, 0, 0, 2, 0, 2, 2, 0, 2, 1, 0, 1, 0, 0, 0, 1, 9, 0, 0, -1, 9, 9]
def cameTo : List Int := [8, 7, 6, 6, 5, 4, 3, 7, 7, 5, 4, 0, 0, 0]
def selects : List Int := [0, 0, 1, 1, 1, 1, 1, 0, 0, 1, 1, 0, 0, 0]
def iV (x : Int) : Value := .int .i64 x
def ranksT (W : World) : World := ((W.alloc (.cells (asked.map iV).toArray 28)).alloc (.cells (cameTo.map iV).toArray 3)).alloc (.cells (selects.map iV).toArray 3)
theorem ranksT_below (W : World) : Below W.heap.size W (ranksT W) := (((Below.refl W.heap.size W).alloc (Nat.le_refl _) _).alloc (by simp) _).alloc (by simp; omega) _
theorem ranks_at (f : Int → Value) (L : List Int) (k : Nat) (h : k < L.length) : (L.map f).toArray[k]? = some (f (L.getD k 0)) := by
  simp [List.getElem?_eq_getElem h]
theorem ranksT_1 (W : World) (k : Nat) (h : k < 42) : (ranksT W).cell? ⟨W.heap.size, k, none⟩ = some (iV (asked.getD k 0)) := by
  rw [← ranks_at iV asked k h]
  refine cell_of_row _ _ k _ 28 (0, 0) ?_
  unfold ranksT
  rw [Below.heap_alloc _ _ _ (by simp; omega), Below.heap_alloc _ _ _ (by simp)]
  exact heap_alloc_new W _
theorem ranksT_2 (W : World) (k : Nat) (h : k < 14) : (ranksT W).cell? ⟨W.heap.size + 1, k, none⟩ = some (iV (cameTo.getD k 0)) := by
  rw [← ranks_at iV cameTo k h]
  refine cell_of_row _ _ k _ 3 (0, 0) ?_
  unfold ranksT
  rw [Below.heap_alloc _ _ _ (by simp)]
  have := heap_alloc_new (W.alloc (.cells (asked.map iV).toArray 28)) (.cells (cameTo.map iV).toArray 3)
  simpa using this
theorem ranksT_3 (W : World) (k : Nat) (h : k < 14) : (ranksT W).cell? ⟨W.heap.size + 1 + 1, k, none⟩ = some (iV (selects.getD k 0)) := by
  rw [← ranks_at iV selects k h]
  refine cell_of_row _ _ k _ 3 (0, 0) ?_
  unfold ranksT
  have := heap_alloc_new ((W.alloc (.cells (asked.map iV).toArray 28)).alloc (.cells (cameTo.map iV).toArray 3)) (.cells (selects.map iV).toArray 3)
  simpa using this
theorem ranks_loc : ∀ k, k < 14 → loc (asked.getD (k * 3) 0) (asked.getD (k * 3 + 1) 0) (asked.getD (k * 3 + 2) 0) = cameTo.getD k 0 := by decide
theorem ranks_lin : ∀ k, k < 14 → lin (cameTo.getD k 0) = selects.getD k 0 := by decide
theorem ranks_bd : ∀ k, k < 42 → -1 ≤ asked.getD k 0 ∧ asked.getD k 0 ≤ 9 := by decide
theorem ranks_bd2 : ∀ k, k < 14 → 0 ≤ cameTo.getD k 0 ∧ cameTo.getD k 0 ≤ 9 := by decide

theorem rk_bd {w v : World} (n : Nat) (h : Below w.heap.size w v) : Below w.heap.size w (v.drewN n) := ⟨h.os, h.tape, h.output, h.size, h.block⟩

set_option maxHeartbeats 2000000 in
theorem RequestRanks_far (a : Int) (w : World) (h : a < 0 ∨ 14 ≤ a) :
    Calls Try.prog 5 #[.int .i64 a] w fun e w' => e = .returned (.bool true) ∧ Below w.heap.size w w' := by
  rcases h with h | h
  · go_enter Try.func5, Try.ntmps5
    go_wp2_with fail
    refine (alive_calls _).mono ?_
    rintro e w' ⟨rfl, rfl⟩
    go_wp2
    go_ret
    exact ⟨rfl, ranksT_below w⟩
  · have h0 : ¬ a < 0 := by omega
    go_enter Try.func5, Try.ntmps5
    go_wp2_with fail
    refine (alive_calls _).mono ?_
    rintro e w' ⟨rfl, rfl⟩
    go_wp2
    go_ret
    exact ⟨rfl, ranksT_below w⟩

set_option maxHeartbeats 2000000 in
theorem RequestRanks_near (k : Nat) (w : World) (h : k < 14) :
    Calls Try.prog 5 #[.int .i64 (k : Int)] w fun e w' => e = .returned (.bool true) ∧ Below w.heap.size w w' := by
  have e1 := ranks_loc k h
  have e2 := ranks_lin k h
  have b0 := ranks_bd (k * 3) (by omega)
  have b1 := ranks_bd (k * 3 + 1) (by omega)
  have b2 := ranks_bd (k * 3 + 2) (by omega)
  have b3 := ranks_bd2 k h
  have k1 := fun w => local_calls (asked.getD (k * 3) 0) (asked.getD (k * 3 + 1) 0) (asked.getD (k * 3 + 2) 0) w (by unfold I64; omega) (by unfold I64; omega) (by unfold I64; omega)
  have k2 := fun w => line_calls (cameTo.getD k 0) w (by unfold I64; omega)
  rw [e1] at k1; rw [e2] at k2
  have K1 := Lib.hid k1
  have K2 := Lib.hid k2
  clear k1 k2 e1 e2 b0 b1 b2 b3
  have t0 := ranksT_1 w (k * 3) (by omega)
  have t1 := ranksT_1 w (k * 3 + 1) (by omega)
  have t2 := ranksT_1 w (k * 3 + 2) (by omega)
  have t3 := ranksT_2 w k h
  have t4 := ranksT_3 w k h
  have bt := ranksT_below w
  go_enter Try.func5, Try.ntmps5
  go_wp2_with fail
  refine (alive_calls _).mono ?_
  rintro e w' ⟨rfl, rfl⟩
  go_upto_region 7 with (fail)
  change Code.wp _ _ _ _ (ranksT w)
  generalize ranksT w = V at *
  generalize asked.getD (k * 3) 0 = x0 at *
  generalize asked.getD (k * 3 + 1) 0 = x1 at *
  generalize asked.getD (k * 3 + 2) 0 = x2 at *
  generalize cameTo.getD k 0 = y at *
  generalize selects.getD k 0 = z at *
  unfold iV at t0 t1 t2 t3 t4
  have i0 : (0 : Int) ≤ (k : Int) := by omega
  have i1 : (k : Int) < 14 := by omega
  have LC : ∀ w, Calls Try.prog 8 #[.int .i64 x0, .int .i64 x1, .int .i64 x2] w fun e w' => e = .returned (.int .i64 y) ∧ w' = w := fun w => (K1.out w).mono (by rintro e w' ⟨rfl, rfl⟩; exact ⟨rfl, rfl⟩)
  go_quiet (first | (go_at_call 8; exact Calls.quiet_of_same (LC _)))
  have t5 : (V.drewN nq).cell? ⟨w.heap.size + 1, k, none⟩ = some (.int .i64 y) := t3
  have t6 : (V.drewN nq).cell? ⟨w.heap.size + 1 + 1, k, none⟩ = some (.int .i64 z) := t4
  have b2 := rk_bd nq bt
  clear t0 t1 t2 t3 t4 bt
  generalize V.drewN nq = V2 at *
  have LL : ∀ w, Calls Try.prog 12 #[.int .i64 y] w fun e w' => e = .returned (.int .i64 z) ∧ w' = w := fun w => (K2.out w).mono (by rintro e w' ⟨rfl, rfl⟩; exact ⟨rfl, rfl⟩)
  go_wp2_with fail
  go_quiet (first | (go_at_call 12; exact Calls.quiet_of_same (LL _)))
  go_wp2
  go_ret
  exact ⟨rfl, rk_bd _ b2⟩

theorem RequestRanks_walk (a : Int) (wa : (Lit.int .i64 a).wf = true) (w : World) :
    Calls Try.prog 5 #[.int .i64 a] w fun e w' => e = .returned (.bool true) ∧ Below w.heap.size w w' := by
  by_cases h : a < 0 ∨ 14 ≤ a
  · exact RequestRanks_far a w h
  · have := RequestRanks_near a.toNat w (by omega)
    rw [show ((a.toNat : Nat) : Int) = a by omega] at this
    exact this
end Go.Proofs.Ythjkeodjaggggaa

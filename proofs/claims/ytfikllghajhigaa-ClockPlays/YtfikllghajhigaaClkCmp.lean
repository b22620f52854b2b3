/- The comparison that the program hands the sort: it orders by the steps that are left. No condition. -/
import Derived.Test.YtfikllghajhigaaClkSmall
import Derived.Test.YtfikllghajhigaaSrtStable
import Derived.BigQuiet
namespace Go.Proofs.Ytfikllghajhigaa
open Go.Proofs Go.RowKit Go.Lib Go.Sort
set_option linter.unusedVariables false

def cmpI (x y : Int) : Int := if x < y then -1 else if y < x then 1 else 0
theorem cmpI_neg (x y : Int) : cmpI x y < 0 ↔ x < y := by
  unfold cmpI
  split
  · simp [*]
  · split <;> simp [*]
theorem isNaN_calls (x : Int) (w : World) : Calls Try.prog 30 #[.int .i64 x] w fun e w' => e = .returned (.bool false) ∧ w' = w := by
  go_enter Try.func30, Try.ntmps30
  go_wp2
  go_ret
  simp
theorem compare_calls (x y : Int) (w : World) : Calls Try.prog 28 #[.int .i64 x, .int .i64 y] w fun e w' => e = .returned (.int .i64 (cmpI x y)) ∧ w' = w := by
  have hn := isNaN_calls
  have h : x < y ∨ y < x ∨ x = y := by omega
  rcases h with h | h | h
  · have e : cmpI x y = -1 := by unfold cmpI; rw [if_pos h]
    rw [e]
    clear e
    go_enter Try.func28, Try.ntmps28
    go_wp2_with fail
    refine (hn _ _).mono ?_
    rintro e w' ⟨rfl, rfl⟩
    go_wp2_with fail
    refine (hn _ _).mono ?_
    rintro e w' ⟨rfl, rfl⟩
    go_wp2
    go_ret
    exact ⟨rfl, rfl⟩
  · have h' : ¬ x < y := by omega
    have e : cmpI x y = 1 := by unfold cmpI; rw [if_neg h', if_pos h]
    rw [e]
    clear e
    go_enter Try.func28, Try.ntmps28
    go_wp2_with fail
    refine (hn _ _).mono ?_
    rintro e w' ⟨rfl, rfl⟩
    go_wp2_with fail
    refine (hn _ _).mono ?_
    rintro e w' ⟨rfl, rfl⟩
    go_wp2
    go_ret
    exact ⟨rfl, rfl⟩
  · subst h
    have e : cmpI x x = 0 := by unfold cmpI; rw [if_neg (by omega), if_neg (by omega)]
    rw [e]
    clear e
    go_enter Try.func28, Try.ntmps28
    go_wp2_with fail
    refine (hn _ _).mono ?_
    rintro e w' ⟨rfl, rfl⟩
    go_wp2_with fail
    refine (hn _ _).mono ?_
    rintro e w' ⟨rfl, rfl⟩
    go_wp2
    go_ret
    exact ⟨rfl, rfl⟩

theorem closure_calls (W : World) (bx b x y : Nat) (p q : Int) (hx : x < 32) (hy : y < 32) (h0 : W.cell? ⟨bx, 0, none⟩ = some (.pointer (some ⟨b, 0, none⟩)))
    (hp : W.cell? ⟨b, 1 + x, none⟩ = some (.int .i64 p)) (hq : W.cell? ⟨b, 1 + y, none⟩ = some (.int .i64 q)) :
    Calls Try.prog 27 #[.int .i64 (x : Int), .int .i64 (y : Int), .pointer (some ⟨bx, 0, none⟩)] W fun e w' => e = .returned (.int .i64 (cmpI p q)) ∧ ∃ m, w' = W.drewN m := by
  have c := compare_calls p q
  have z1 : (x : Int) < 32 := by omega
  have z2 : (y : Int) < 32 := by omega
  generalize cmpI p q = r at c ⊢
  go_enter Try.func27, Try.ntmps27
  go_wp2_with fail
  go_quiet (first | (go_at_call 28; exact Calls.quiet_of_same (c _)))
  go_wp2
  go_ret
  exact ⟨rfl, _, rfl⟩

/-- a timer's number as a value; how many steps it has left; its rank: first by the steps, then by the number -/
def eid (x : Fin 32) : Value := .int .i64 ((x.val : Nat) : Int)
def key (l : List Nat) (x : Fin 32) : Nat := l.getD x.val 0
def rank (l : List Nat) (x : Fin 32) : Nat := 32 * key l x + x.val
def cmpK (l : List Nat) (x y : Fin 32) : Int := cmpI ((key l x : Nat) : Int) ((key l y : Nat) : Int)
theorem rnk (l : List Nat) : Rnk (cmpK l) (fun x => x.val) (rank l) where
  lo x y h1 h2 := by
    unfold cmpK at h2
    rw [cmpI_neg] at h2
    have := x.isLt
    have := y.isLt
    unfold rank
    omega
  hi x y h1 h2 := by
    unfold cmpK at h2
    rw [cmpI_neg] at h2
    have := x.isLt
    have := y.isLt
    unfold rank
    omega
theorem sortWorld_cell (w : World) (bk off m : Nat) (dk : Array (Fin 32)) (os : Array Obj) {c o : Nat} (hc : c ≠ bk) (hs : c < w.heap.size) :
    (sortWorld eid w bk off m dk os).cell? ⟨c, o, none⟩ = w.cell? ⟨c, o, none⟩ := by
  unfold sortWorld
  rw [cell?_grow _ _ _ (by rw [size_putRow]; exact hs), cell?_putRow_other eid _ bk off _ _ (Or.inl hc)]
  rfl
theorem cmp_lays (w : World) (l : List Nat) (bx b bk off size now : Nat) (h : CS w 45 b now l) (h0 : w.cell? ⟨bx, 0, none⟩ = some (.pointer (some ⟨b, 0, none⟩))) (h1 : bx ≠ bk) (h2 : b ≠ bk) :
    CmpLays1 Try.prog 27 #[.pointer (some ⟨bx, 0, none⟩)] eid (cmpK l) bk off size w := fun m os dk hs x y => by
  have hbx : bx < w.heap.size := World.block_lt_of_cell? w _ h0
  refine Calls.mono (closure_calls (sortWorld eid w bk off m dk os) bx b x.val y.val _ _ x.isLt y.isLt ((sortWorld_cell w bk off m dk os h1 hbx).trans h0)
    ((sortWorld_cell w bk off m dk os h2 h.lt).trans (h.at_ x.isLt)) ((sortWorld_cell w bk off m dk os h2 h.lt).trans (h.at_ y.isLt))) ?_
  rintro e w' ⟨rfl, q, rfl⟩
  exact ⟨rfl, q, #[], by rw [grow_empty]⟩
end Go.Proofs.Ytfikllghajhigaa

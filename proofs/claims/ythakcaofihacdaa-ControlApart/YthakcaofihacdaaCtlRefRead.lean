/- The reference's ReadCtl. Condition: the slice reads as its bytes. -/
import Derived.Test.YthakcaofihacdaaCtlRead
import Derived.Deep.RegionLaw
namespace Go.Proofs.Ythakcaofihacdaa
open Go.RowKit
set_option linter.unusedVariables false

section
variable {l : List UInt8} {m k : Int}
theorem rdC_of (hm : isMod m = true) (h0 : l ≠ []) : rdC l m = (if (kindN (bAt l 0)).2 = false then (zc, 0, 2) else if numb (kindN (bAt l 0)).1 = true then rdNum (kindN (bAt l 0)).1 (splitN l m) else (((kindN (bAt l 0)).1, 0, 0, decide (bAt l 0 / 16 % 2 = 1)), 1, 0)) := by
  unfold rdC
  rw [if_neg (by rw [hm]; decide), if_neg h0]
theorem rdC_bare (hm : isMod m = true) (h0 : l ≠ []) (h3 : 3 ≤ k) (h7 : k ≤ 7) (q : Bool) (h : bAt l 0 = codeOf k + 16 * pb q) : rdC l m = ((k, 0, 0, q), 1, 0) := by
  have hk : k = 3 ∨ k = 4 ∨ k = 5 ∨ k = 6 ∨ k = 7 := by omega
  rw [rdC_of hm h0, h]
  rcases hk with rfl | rfl | rfl | rfl | rfl <;> cases q <;> rfl
theorem rdC_num (hm : isMod m = true) (h0 : l ≠ []) (hk : kindN (bAt l 0) = (k, true)) (hn : numb k = true) : rdC l m = rdNum k (splitN l m) := by
  rw [rdC_of hm h0, hk]
  dsimp only
  rw [if_neg (by decide), if_pos hn]
theorem rdC_odd (hm : isMod m = true) (h0 : l ≠ []) (ho : ¬ bAt l 0 % 2 = 0) (h1 : ¬ bAt l 0 = 1) (h9 : ¬ bAt l 0 = 9) (hno : ∀ j : Int, 3 ≤ j → j ≤ 7 → ¬ (bAt l 0 = codeOf j) ∧ ¬ (bAt l 0 = codeOf j + 16)) : rdC l m = (zc, 0, 2) := by
  rw [rdC_of hm h0, kind_miss _ ho]
  · rfl
  · intro j hj1 hj7 h
    by_cases h3 : 3 ≤ j
    · have := hno j h3 hj7
      rcases h with h | ⟨_, h⟩
      · exact this.1 h
      · exact this.2 h
    · have hj : j = 1 ∨ j = 2 := by omega
      rcases hj with rfl | rfl
      · rcases h with h | ⟨h, _⟩
        · exact h1 h
        · cases h
      · rcases h with h | ⟨h, _⟩
        · exact h9 h
        · cases h
end
set_option maxHeartbeats 400000 in
theorem refRead_arg (A : Option Addr) (c : Nat) (l : List UInt8) (m : Int) (w : World) (hm : isMod m = false) :
    Calls Try.prog 15 #[.slice A l.length c, .int .i64 m] w (GivesC (rdC l m) w) := by
  have h : ¬ (m = 128 ∨ m = 32768) := of_decide_eq_false hm
  have h1 : (m != 128) = true := by simpa using fun e => h (.inl e)
  have h2 : (m != 32768) = true := by simpa using fun e => h (.inr e)
  rw [show rdC l m = (zc, 0, 1) by unfold rdC; rw [hm]; rfl]
  clear h
  go_enter Try.func15, Try.ntmps15
  go_wp2
  refine bodyPost_ret (v := .tuple #[.agg #[.int .i64 0, .int .i64 0, .int .i64 0, .bool false], .int .i64 0, .int .i64 1]) (by simp [results, Try.results15, go_sem]) rfl ⟨rfl, by ((repeat (first | with_reducible refine ba ?_ | with_reducible refine bd ?_ | with_reducible refine bs ?_ (by first | exact Nat.le_refl _ | exact Nat.le_succ _))); exact Below.refl _ _)⟩
set_option maxHeartbeats 400000 in
theorem refRead_none (A : Option Addr) (c : Nat) (m : Int) (w : World) (hm : m = 128 ∨ m = 32768) :
    Calls Try.prog 15 #[.slice A 0 c, .int .i64 m] w (GivesC (rdC [] m) w) := by
  have hM : isMod m = true := decide_eq_true hm
  rw [show rdC [] m = (zc, 0, 3) by unfold rdC; rw [hM]; rfl]
  clear hM
  rcases hm with rfl | rfl
  all_goals
    go_enter Try.func15, Try.ntmps15
    go_wp2
    refine bodyPost_ret (v := .tuple #[.agg #[.int .i64 0, .int .i64 0, .int .i64 0, .bool false], .int .i64 0, .int .i64 3]) (by simp [results, Try.results15, go_sem]) rfl ⟨rfl, by ((repeat (first | with_reducible refine ba ?_ | with_reducible refine bd ?_ | with_reducible refine bs ?_ (by first | exact Nat.le_refl _ | exact Nat.le_succ _))); exact Below.refl _ _)⟩
end Go.Proofs.Ythakcaofihacdaa

/- Right, the program's and the reference's. No condition. -/
import Derived.Test.YthakcaofihacdaaCtlSmall
namespace Go.Proofs.Ythakcaofihacdaa
open Go.RowKit
set_option linter.unusedVariables false

/-- the world with one new control field -/
def boxed (w : World) (k ns nr : Int) (p : Bool) : World := w.alloc (.cells #[.int .i64 k, .int .i64 ns, .int .i64 nr, .bool p] 23)
theorem boxed_below (w : World) (k ns nr : Int) (p : Bool) : Below w.heap.size w (boxed w k ns nr p) := (Below.refl _ _).alloc (Nat.le_refl _) _
theorem boxed_size (w : World) (k ns nr : Int) (p : Bool) : (boxed w k ns nr p).heap.size = w.heap.size + 1 := by unfold boxed; simp
section
variable {k ns nr m : Int}
theorem right_no (h : isMod m = false) : right k ns nr m = false := by unfold right; rw [h]; rfl
theorem right_i (h : isMod m = true) : right 0 ns nr m = (inR ns m && inR nr m) := by unfold right; rw [h]; rfl
theorem right_s (h : isMod m = true) (hk : k = 1 ∨ k = 2) : right k ns nr m = (decide (ns = 0) && inR nr m) := by
  unfold right
  rw [h, if_neg (by omega), if_pos hk]
  rfl
theorem right_u (h : isMod m = true) (hk : 3 ≤ k ∧ k ≤ 7) : right k ns nr m = (decide (ns = 0) && decide (nr = 0)) := by
  unfold right
  rw [h, if_neg (by omega), if_neg (by omega), decide_eq_true hk]
  simp
theorem right_x (hk : k < 0 ∨ 7 < k) : right k ns nr m = false := by
  unfold right
  rw [if_neg (by omega), if_neg (by omega), decide_eq_false (by omega)]
  simp
end
theorem eq0_dec (n : Int) : (n == 0) = decide (n = 0) := by
  by_cases h : n = 0 <;> simp [h]

set_option maxHeartbeats 800000 in
theorem right_calls (k ns nr : Int) (p : Bool) (m : Int) (w : World) :
    Calls Try.prog 11 #[.agg #[.int .i64 k, .int .i64 ns, .int .i64 nr, .bool p], .int .i64 m] w fun e w' => e = .returned (.bool (right k ns nr m)) ∧ boxed w k ns nr p = w' := by
  cases hm : isMod m
  · rw [right_no hm]
    go_enter Try.func11, Try.ntmps11
    go_wp2_with fail
    refine (modulus_calls m _).mono ?_
    rintro e w' ⟨rfl, rfl⟩
    go_wp2
    go_ret
    exact ⟨rfl, rfl⟩
  · by_cases h0 : k = 0
    · subst h0
      rw [right_i hm]
      cases h1 : inR ns m
      · go_enter Try.func11, Try.ntmps11
        go_wp2_with fail
        refine (modulus_calls m _).mono ?_
        rintro e w' ⟨rfl, rfl⟩
        go_wp2_with fail
        refine (within_calls ns m _).mono ?_
        rintro e w' ⟨rfl, rfl⟩
        go_wp2
        go_ret
        exact ⟨rfl, rfl⟩
      · go_enter Try.func11, Try.ntmps11
        go_wp2_with fail
        refine (modulus_calls m _).mono ?_
        rintro e w' ⟨rfl, rfl⟩
        go_wp2_with fail
        refine (within_calls ns m _).mono ?_
        rintro e w' ⟨rfl, rfl⟩
        go_wp2_with fail
        refine (within_calls nr m _).mono ?_
        rintro e w' ⟨rfl, rfl⟩
        go_wp2
        go_ret
        exact ⟨rfl, rfl⟩
    · by_cases h12 : k = 1 ∨ k = 2
      · rw [right_s hm h12]
        have hq : (ns == 0) = decide (ns = 0) := eq0_dec ns
        cases hz : decide (ns = 0)
        · rw [hz] at hq
          clear hz
          rcases h12 with rfl | rfl
          all_goals
            go_enter Try.func11, Try.ntmps11
            go_wp2_with fail
            refine (modulus_calls m _).mono ?_
            rintro e w' ⟨rfl, rfl⟩
            go_wp2
            go_ret
            exact ⟨rfl, rfl⟩
        · have hq0 : ns = 0 := of_decide_eq_true hz
          subst hq0
          clear hz hq
          rcases h12 with rfl | rfl
          all_goals
            go_enter Try.func11, Try.ntmps11
            go_wp2_with fail
            refine (modulus_calls m _).mono ?_
            rintro e w' ⟨rfl, rfl⟩
            go_wp2_with fail
            refine (within_calls nr m _).mono ?_
            rintro e w' ⟨rfl, rfl⟩
            go_wp2
            go_ret
            exact ⟨rfl, rfl⟩
      · by_cases h37 : 3 ≤ k ∧ k ≤ 7
        · rw [right_u hm h37]
          have hk : k = 3 ∨ k = 4 ∨ k = 5 ∨ k = 6 ∨ k = 7 := by omega
          clear h37 h0 h12
          have hq : (ns == 0) = decide (ns = 0) := eq0_dec ns
          have hq2 : (nr == 0) = decide (nr = 0) := eq0_dec nr
          cases hz : decide (ns = 0)
          · rw [hz] at hq
            clear hz hq2
            rcases hk with rfl | rfl | rfl | rfl | rfl
            all_goals
              go_enter Try.func11, Try.ntmps11
              go_wp2_with fail
              refine (modulus_calls m _).mono ?_
              rintro e w' ⟨rfl, rfl⟩
              go_wp2
              go_ret
              exact ⟨rfl, rfl⟩
          · have hq0 : ns = 0 := of_decide_eq_true hz
            subst hq0
            clear hz hq
            cases hz : decide (nr = 0)
            all_goals
              rw [hz] at hq2
              clear hz
              rcases hk with rfl | rfl | rfl | rfl | rfl
              all_goals
                go_enter Try.func11, Try.ntmps11
                go_wp2_with fail
                refine (modulus_calls m _).mono ?_
                rintro e w' ⟨rfl, rfl⟩
                go_wp2
                go_ret
                exact ⟨rfl, rfl⟩
        · rw [right_x (by omega)]
          have h1 : ¬ k = 1 := by omega
          have h2 : ¬ k = 2 := by omega
          have h3 : ¬ k = 3 := by omega
          have h4 : ¬ k = 4 := by omega
          have h5 : ¬ k = 5 := by omega
          have h6 : ¬ k = 6 := by omega
          have h7 : ¬ k = 7 := by omega
          clear h12 h37
          go_enter Try.func11, Try.ntmps11
          go_wp2_with fail
          refine (modulus_calls m _).mono ?_
          rintro e w' ⟨rfl, rfl⟩
          go_wp2
          go_ret
          exact ⟨rfl, rfl⟩
end Go.Proofs.Ythakcaofihacdaa

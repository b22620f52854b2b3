/- The law FrameTurned where it has nothing to look at, walked. No condition. -/
import Derived.Test.YtnogdlekijpdhaaFraAlive
namespace Go.Proofs.Ytnogdlekijpdhaa
open Go.RowKit
set_option linter.unusedVariables false

theorem FrameTurned_far (A : Option Addr) (n c : Nat) (B : Option Addr) (m d : Nat) (wide : Bool) (q z : Int) (w : World) (hn : n ≤ 9223372036854775807) (hm : m ≤ 9223372036854775807)
    (h : n < 1 ∨ (¬ n < 1 ∧ 100 < n) ∨ (¬ n < 1 ∧ n ≤ 100 ∧ m < 1) ∨ (¬ n < 1 ∧ n ≤ 100 ∧ ¬ m < 1 ∧ 100 < m) ∨ (¬ n < 1 ∧ n ≤ 100 ∧ ¬ m < 1 ∧ m ≤ 100 ∧ q < 0)) :
    Calls Try.prog 9 #[.slice A n c, .slice B m d, .bool wide, .int .i64 q, .int .i64 z] w fun e w' => e = .returned (.bool true) ∧ Below w.heap.size w w' := by
  rcases h with h | ⟨h0, h⟩ | ⟨h0, h1, h⟩ | ⟨h0, h1, h2, h⟩ | ⟨h0, h1, h2, h3, h⟩
  all_goals
    go_enter Try.func9, Try.ntmps9
    go_wp2_with fail
    refine (alive_calls w).mono ?_
    rintro e w' ⟨rfl, hb⟩
    go_wp2
    go_ret
    exact ⟨rfl, hb⟩
end Go.Proofs.Ytnogdlekijpdhaa

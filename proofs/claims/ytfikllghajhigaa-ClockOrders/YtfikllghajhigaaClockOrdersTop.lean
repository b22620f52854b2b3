/- ClockOrders: the law's walk, at every argument. No condition. -/
import Derived.Test.YtfikllghajhigaaClockOrdersWalk
namespace Go.Proofs.Ytfikllghajhigaa
open Go.Proofs Go.RowKit Go.Lib Go.Sort
set_option linter.unusedVariables false

set_option maxHeartbeats 1000000 in
set_option maxRecDepth 100000 in
theorem ClockOrders_far (A : Option Addr) (len cap : Nat) (n : Int) (h : 32 < (len : Int) ∨ (¬ 32 < (len : Int) ∧ n < 0) ∨ (¬ 32 < (len : Int) ∧ ¬ n < 0 ∧ 300 < n)) (hc : len ≤ maxLen) (w : World) :
    Calls Try.prog 5 #[.slice A len cap, .int .i64 n] w fun e w' => e = .returned (.bool true) ∧ Below w.heap.size w w' := by
  have al := alive_calls w
  unfold maxLen at hc
  rcases h with h1 | ⟨h1, h2⟩ | ⟨h1, h2, h3⟩
  all_goals
    go_enter Try.func5, Try.ntmps5
    go_wp2_with fail
    refine al.mono ?_
    rintro e W ⟨rfl, bel⟩
    have FIN := Lib.hid bel
    clear al bel
    go_wp2
    go_ret
    exact ⟨rfl, FIN.out⟩
theorem ClockOrders_walk (A : Option Addr) (len cap : Nat) (zs : List Int) (n : Int) (w : World)
    (h : (A = none ∧ len = 0 ∧ cap = 0 ∧ zs = []) ∨ ∃ x, A = some x ∧ len ≤ cap ∧ cap ≤ maxLen ∧ zs.length = cap ∧ (∀ i, i < zs.length → w.cell? (x.add i) = some (.int .i64 (zs.getD i 0))) ∧ ∀ n ∈ zs, (Lit.int .i64 n).wf = true) (hn : (Lit.int .i64 n).wf = true) :
    Calls Try.prog 5 #[.slice A len cap, .int .i64 n] w fun e w' => e = .returned (.bool true) ∧ Below w.heap.size w w' := by
  obtain ⟨l, rfl, h1, h2, hr⟩ := RdI.of_row h
  by_cases hl : l.length ≤ 32 ∧ 0 ≤ n ∧ n ≤ 300
  · obtain ⟨N, rfl⟩ : ∃ k : Nat, n = (k : Int) := ⟨n.toNat, by omega⟩
    exact ClockOrders_main A cap l N hl.1 (by omega) w hr
  · exact ClockOrders_far A l.length cap n (by omega) (by omega) w
end Go.Proofs.Ytfikllghajhigaa

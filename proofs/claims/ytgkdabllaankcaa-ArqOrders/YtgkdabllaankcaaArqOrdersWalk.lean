/- The law ArqOrders returns true at every input: over lines that lose, what is received is the beginning of what was sent, in order, each once, and what is acknowledged was received. No condition. -/
import Derived.Test.YtgkdabllaankcaaArqOrdersA
import Derived.Test.YtgkdabllaankcaaArqOrdersB
namespace Go.Proofs.Ytgkdabllaankcaa
open Go.RowKit
set_option linter.unusedVariables false
set_option maxRecDepth 20000 in
set_option maxHeartbeats 2000000 in
/-- outside the bounds -/
theorem ArqOrders_far (a0 : Bool) (a1 : Int) (A : Option Addr) (len cap : Nat) (h : ¬ (1 ≤ a1 ∧ a1 ≤ 16 ∧ len ≤ 300)) (hlen : len ≤ 9223372036854775807) (w : World) :
    Calls Try.prog 3 #[.bool a0, .int .i64 a1, .slice A len cap] w fun e w' => e = .returned (.bool true) ∧ Below w.heap.size w w' := by
  have key : a1 < 1 ∨ (¬ a1 < 1 ∧ 16 < a1) ∨ (¬ a1 < 1 ∧ ¬ 16 < a1 ∧ (300 : Int) < (len : Int)) := by omega
  clear h
  rcases key with g1 | ⟨g1, g2⟩ | ⟨g1, g2, g3⟩
  all_goals
    go_enter Try.func3, Try.ntmps3
    go_wp2_with fail
    refine (alive_calls w).mono ?_
    rintro e V ⟨rfl, hb⟩
    go_wp2
    go_ret
    exact ⟨rfl, hb⟩
theorem ArqOrders_walk (a0 : Bool) (a1 : Int) (A : Option Addr) (len cap : Nat) (zs : List Int) (w : World) (w1 : (Lit.int .i64 a1).wf = true)
    (h : (A = none ∧ len = 0 ∧ cap = 0 ∧ zs = []) ∨ ∃ x, A = some x ∧ len ≤ cap ∧ cap ≤ maxLen ∧ zs.length = cap ∧ (∀ i, i < zs.length → w.cell? (x.add i) = some (.int .i64 (zs.getD i 0))) ∧ ∀ n ∈ zs, (Lit.int .i64 n).wf = true) :
    Calls Try.prog 3 #[.bool a0, .int .i64 a1, .slice A len cap] w fun e w' => e = .returned (.bool true) ∧ Below w.heap.size w w' := by
  obtain ⟨l, rfl, k1, k2, hr⟩ := RdI.of_row h
  by_cases h : 1 ≤ a1 ∧ a1 ≤ 16 ∧ l.length ≤ 300
  · obtain ⟨h1, h2, h3⟩ := h
    obtain ⟨n, rfl⟩ : ∃ n : Nat, a1 = n := ⟨a1.toNat, by omega⟩
    cases a0
    · exact ArqOrders_narrow n A cap l w hr h3 (by omega) (by omega)
    · exact ArqOrders_wide n A cap l w hr h3 (by omega) (by omega)
  · exact ArqOrders_far a0 a1 A l.length cap h (by unfold maxLen at k2; omega) w
end Go.Proofs.Ytgkdabllaankcaa

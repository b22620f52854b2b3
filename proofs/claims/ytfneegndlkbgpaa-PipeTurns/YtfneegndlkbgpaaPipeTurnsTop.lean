/- The law PipeTurns, walked, at every argument. Condition: the slice reads as its octets. -/
import Derived.Test.YtfneegndlkbgpaaPipeTurnsWalk
namespace Go.Proofs.Ytfneegndlkbgpaa
open Go.RowKit
set_option linter.unusedVariables false

set_option maxRecDepth 20000 in
/-- one of the law's limits is passed -/
theorem PipeTurns_far (A : Option Addr) (n d : Nat) (gone pos inn y : Int) (w : World) (hn : n ≤ 9223372036854775807) (h : 200 < n ∨ gone < 0 ∨ 300 < gone ∨ pos < 0 ∨ 300 < pos ∨ inn < 0 ∨ 300 < inn) :
    Calls Try.prog 6 #[.slice A n d, .int .i64 gone, .int .i64 pos, .int .i64 inn, .int .u8 y] w fun e w' => e = .returned (.bool true) ∧ Below w.heap.size w w' := by
  have G := Lib.hid h
  clear h
  by_cases g1 : (200 : Int) < (n : Int)
  · go_enter Try.func6, Try.ntmps6
    go_wp2_with fail
    refine (alive_calls w).mono ?_
    rintro e W ⟨rfl, hb⟩
    go_wp2
    go_ret
    exact ⟨rfl, hb⟩
  by_cases g2 : gone < 0
  · go_enter Try.func6, Try.ntmps6
    go_wp2_with fail
    refine (alive_calls w).mono ?_
    rintro e W ⟨rfl, hb⟩
    go_wp2
    go_ret
    exact ⟨rfl, hb⟩
  by_cases g3 : 300 < gone
  · go_enter Try.func6, Try.ntmps6
    go_wp2_with fail
    refine (alive_calls w).mono ?_
    rintro e W ⟨rfl, hb⟩
    go_wp2
    go_ret
    exact ⟨rfl, hb⟩
  by_cases g4 : pos < 0
  · go_enter Try.func6, Try.ntmps6
    go_wp2_with fail
    refine (alive_calls w).mono ?_
    rintro e W ⟨rfl, hb⟩
    go_wp2
    go_ret
    exact ⟨rfl, hb⟩
  by_cases g5 : 300 < pos
  · go_enter Try.func6, Try.ntmps6
    go_wp2_with fail
    refine (alive_calls w).mono ?_
    rintro e W ⟨rfl, hb⟩
    go_wp2
    go_ret
    exact ⟨rfl, hb⟩
  by_cases g6 : inn < 0
  · go_enter Try.func6, Try.ntmps6
    go_wp2_with fail
    refine (alive_calls w).mono ?_
    rintro e W ⟨rfl, hb⟩
    go_wp2
    go_ret
    exact ⟨rfl, hb⟩
  · have g7 : 300 < inn := by have := G.out; omega
    go_enter Try.func6, Try.ntmps6
    go_wp2_with fail
    refine (alive_calls w).mono ?_
    rintro e W ⟨rfl, hb⟩
    go_wp2
    go_ret
    exact ⟨rfl, hb⟩
theorem PipeTurns_walk (a0 : Option Addr) (len0 cap0 : Nat) (z0 : List Int) (a1 a2 a3 a4 : Int) (w : World)
    (h0 : (a0 = none ∧ len0 = 0 ∧ cap0 = 0 ∧ z0 = []) ∨ ∃ x, a0 = some x ∧ len0 ≤ cap0 ∧ cap0 ≤ maxLen ∧ z0.length = cap0 ∧ (∀ i, i < z0.length → w.cell? (x.add i) = some (.int .u8 (z0.getD i 0))) ∧ ∀ n ∈ z0, (Lit.int .u8 n).wf = true)
    (w1 : (Lit.int .i64 a1).wf = true) (w2 : (Lit.int .i64 a2).wf = true) (w3 : (Lit.int .i64 a3).wf = true) (w4 : (Lit.int .u8 a4).wf = true) :
    Calls Try.prog 6 #[.slice a0 len0 cap0, .int .i64 a1, .int .i64 a2, .int .i64 a3, .int .u8 a4] w fun e w' => e = .returned (.bool true) ∧ Below w.heap.size w w' := by
  obtain ⟨l0, rfl, hc0, hm0, hr0⟩ := Rd.of_row h0
  by_cases h : 200 < l0.length ∨ a1 < 0 ∨ 300 < a1 ∨ a2 < 0 ∨ 300 < a2 ∨ a3 < 0 ∨ 300 < a3
  · exact PipeTurns_far a0 l0.length cap0 a1 a2 a3 a4 w (by unfold maxLen at hm0; omega) h
  · have hb := bounds_u8 w4
    obtain ⟨g, rfl⟩ : ∃ g : Nat, a1 = (g : Int) := ⟨a1.toNat, by omega⟩
    obtain ⟨p, rfl⟩ : ∃ g : Nat, a2 = (g : Int) := ⟨a2.toNat, by omega⟩
    obtain ⟨i, rfl⟩ : ∃ g : Nat, a3 = (g : Int) := ⟨a3.toNat, by omega⟩
    obtain ⟨y, rfl⟩ : ∃ y : UInt8, a4 = (y.toNat : Int) := ⟨UInt8.ofNat a4.toNat, by simp; omega⟩
    exact PipeTurns_main a0 cap0 l0 g p i y w hr0 (by omega) hc0 hm0 (by omega) (by omega) (by omega)
end Go.Proofs.Ytfneegndlkbgpaa

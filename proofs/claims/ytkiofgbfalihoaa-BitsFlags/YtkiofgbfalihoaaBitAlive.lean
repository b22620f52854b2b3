/- The document's example, as each statement of the chapter looks at it first. Condition: none. -/
import Derived.Test.YtkiofgbfalihoaaBitOf
namespace Go.Proofs.Ytkiofgbfalihoaa
open Go.RowKit
open Bit
set_option linter.unusedVariables false

/-- the call returns true; nothing that was there has turned -/
def Live (w : World) (e : Ending) (w' : World) : Prop := e = .returned (.bool true) ∧ Below w.heap.size w w'
theorem alive_calls (w : World) : Calls Try.prog 8 #[] w (Live w) := by
  have s1 : stuff 0 [1, 1, 1, 1, 1] = [1, 1, 1, 1, 1, 0] := by decide
  have hs : Calls Try.prog 10 #[.slice (some ⟨w.heap.size, 0, none⟩) 5 5] (laid w [1, 1, 1, 1, 1]) fun e w' => ∃ A c, e = .returned (.slice A 6 c) ∧ Rd w' A [1, 1, 1, 1, 1, 0] ∧ Below (laid w [1, 1, 1, 1, 1]).heap.size (laid w [1, 1, 1, 1, 1]) w' := by
    have := stuff_calls (some ⟨w.heap.size, 0, none⟩) 5 [1, 1, 1, 1, 1] (laid w [1, 1, 1, 1, 1]) (laid_rd w _) (by simp)
    rw [s1] at this
    refine this.mono ?_
    rintro e w' ⟨A, c, rfl, own, bel⟩
    exact ⟨A, c, rfl, own.rd, bel⟩
  clear s1
  go_enter Try.func8, Try.ntmps8
  go_wp2_with fail
  refine hs.mono ?_
  rintro e w1 ⟨A1, c1, rfl, r1, b1⟩
  clear hs
  have q1 : (convert 22 9 (.slice A1 6 c1)).run Try.prog w1 = .ok (.string ⟨#[1, 1, 1, 1, 1, 0]⟩) w1 := run_conv w1 A1 c1 _ r1
  have ho : Calls Try.prog 9 #[.slice (some ⟨w1.heap.size, 0, none⟩) 1 1] (laid w1 [3]) fun e w' => ∃ A c, e = .returned (.slice A 8 c) ∧ Below (laid w1 [3]).heap.size (laid w1 [3]) w' := by
    refine (of_calls (some ⟨w1.heap.size, 0, none⟩) 1 [3] (laid w1 [3]) (laid_rd w1 _) (by simp)).mono ?_
    rintro e w' ⟨A, c, rfl, own, bel⟩
    exact ⟨A, c, rfl, bel⟩
  have bw := (laid_below w [1, 1, 1, 1, 1]).trans (b1.mono (by rw [laid_size]; omega))
  go_wp2_with fail
  refine ho.mono ?_
  rintro e w2 ⟨A2, c2, rfl, b2⟩
  clear ho
  have bel : Below w.heap.size w w2 := bw.trans (((laid_below w1 [3]).trans (b2.mono (by rw [laid_size]; omega))).mono bw.size)
  go_wp2
  go_ret
  exact ⟨rfl, bel⟩
end Go.Proofs.Ytkiofgbfalihoaa

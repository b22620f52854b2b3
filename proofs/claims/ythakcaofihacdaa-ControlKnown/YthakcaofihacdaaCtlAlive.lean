/- The law's own alive and num. No condition. -/
import Derived.Test.YthakcaofihacdaaCtlBytes
namespace Go.Proofs.Ythakcaofihacdaa
open Go.RowKit
set_option linter.unusedVariables false

theorem num_calls (n : Int) (w : World) : Calls Try.prog 14 #[.int .i64 n] w fun e w' => e = .returned (.int .i64 n) ∧ w = w' := by
  go_enter Try.func14, Try.ntmps14
  go_wp2
  go_ret
  exact ⟨rfl, rfl⟩
theorem alive_calls (w : World) : Calls Try.prog 8 #[] w fun e w' => e = .returned (.bool true) ∧ Below w.heap.size w w' := by
  have B0 := bytes_calls 0 0 0 false 128 w
  rw [show enc 0 0 0 false 128 = [0, 0] by decide +kernel] at B0
  go_enter Try.func8, Try.ntmps8
  go_wp2_with fail
  refine B0.mono ?_
  rintro e w1 ⟨A, c, rfl, rd, bel⟩
  clear B0
  obtain ⟨b, off, rfl, hc⟩ := rd (by decide)
  have q0 : w1.cell? ⟨b, off, none⟩ = some (.int .u8 0) := hc 0 (by decide)
  have q1 : w1.cell? ⟨b, off + 1, none⟩ = some (.int .u8 0) := hc 1 (by decide)
  clear hc
  have R1 := right_calls 4 0 0 false 128 w1
  rw [show right 4 0 0 128 = true by decide +kernel] at R1
  have R2 := right_calls 0 0 0 false 8 (boxed w1 4 0 0 false)
  rw [show right 0 0 0 8 = false by decide +kernel] at R2
  have b1 := boxed_below w1 4 0 0 false
  have b2 := boxed_below (boxed w1 4 0 0 false) 0 0 0 false
  have BB := bel.trans ((b1.trans (b2.mono b1.size)).mono bel.size)
  clear b1 b2
  go_wp2_with fail
  refine R1.mono ?_
  rintro e w2 ⟨rfl, rfl⟩
  go_wp2_with fail
  refine R2.mono ?_
  rintro e w3 ⟨rfl, rfl⟩
  go_wp2
  go_ret
  exact ⟨rfl, BB⟩
end Go.Proofs.Ythakcaofihacdaa

/- An error's number. No condition. -/
import Derived.Test.YtkiofgbfalihoaaBitAlive
namespace Go.Proofs.Ytkiofgbfalihoaa
open Go.RowKit
set_option linter.unusedVariables false

theorem num_calls (n : Int) (w : World) : Calls Try.prog 15 #[.int .i64 n] w fun e w' => e = .returned (.int .i64 n) ∧ w = w' := by
  go_enter Try.func15, Try.ntmps15
  go_wp2
  go_ret
  exact ⟨rfl, rfl⟩
end Go.Proofs.Ytkiofgbfalihoaa

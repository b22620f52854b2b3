/- Two control fields compared; what is written is read as it was. No condition. -/
import Derived.Test.YthakcaofihacdaaCtlRefRead
import Derived.Test.YthakcaofihacdaaCtlRows
import Derived.Laws.StructEq
namespace Go.Proofs.Ythakcaofihacdaa
open Go.RowKit
set_option linter.unusedVariables false

theorem ctlGuard : Try.prog.eqGuardType Try.prog.depth 23 = false := by kernel_rfl
theorem ctlHeld : Try.prog.stoodInHeld 23 = false := by kernel_rfl
theorem ctlFields : Try.prog.underlying 23 = some (.struct (Try.prog.fieldsOf 23)) := by
  unfold Program.fieldsOf
  rw [Try.underlying23]
theorem ctl_eql (w : World) (k ns nr k' ns' nr' : Int) (p p' : Bool) :
    (binOp .eql 23 (.agg #[.int .i64 k, .int .i64 ns, .int .i64 nr, .bool p]) (.agg #[.int .i64 k', .int .i64 ns', .int .i64 nr', .bool p'])).run Try.prog w = .ok (.bool (k == k' && (ns == ns' && (nr == nr' && p == p')))) w := by
  rw [run_eql_struct, run_equalIn_struct w 9999 _ _ _ ctlFields ctlHeld]
  unfold Program.fieldsOf
  rw [Try.underlying23]
  cases h0 : (k == k') <;> cases h1 : (ns == ns') <;> cases h2 : (nr == nr') <;> cases h3 : (p == p') <;> simp [Op.eqFields, go_sem, Try.underlying3, Try.underlying4, h0, h1, h2, h3]
end Go.Proofs.Ythakcaofihacdaa

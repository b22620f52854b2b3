/- A control field that comes in by value: opened, and read again behind the call. No condition. -/
import Derived.Test.YthakcaofihacdaaBytesRd
import Derived.Lib.SmallJoins
import Derived.ShutString
import Derived.ChangeOld
namespace Go.Proofs.Ythakcaofihacdaa
open Go.ChangeShapes Go.WideShapes Go.ChangeAt Go.RowKit Go.Joins
set_option linter.unusedVariables false

theorem cellsCtl : Try.prog.cellsOf 23 = 4 := by kernel_rfl
/-- the three numbers are ints -/
def CtlWf (k ns nr : Int) : Prop := (Lit.int .i64 k).wf = true ∧ (Lit.int .i64 ns).wf = true ∧ (Lit.int .i64 nr).wf = true
section
variable {H : Type} {enc : TypeId × Value → H} {w : World} {spare : Nat → Bool} {held : Bool} {base : Nat}
theorem open_ctl {v : Value} {d : DataW H} {p : List MemPlace} {r : Reach} {b0 : Nat} (hv : Value.okWide Try.prog w r b0 23 v) (h : DataW.Trod enc Try.prog w base spare held 23 v d p) :
    ∃ (k ns nr : Int) (q : Bool), v = .agg #[.int .i64 k, .int .i64 ns, .int .i64 nr, .bool q] ∧ d = .agg [.lit (.int .i64 k), .lit (.int .i64 ns), .lit (.int .i64 nr), .lit (.bool q)] ∧ p = [] ∧ CtlWf k ns nr := by
  obtain ⟨c0, c1, c2, c3, y0, y1, y2, y3, m, rfl, rfl, rfl, hy0, hy1, hy2, hy3⟩ := open_agg4 Try.underlying23 (by kernel_rfl) cellsCtl hv h
  obtain ⟨a, e0, rfl, wa⟩ := DataW.trod_int Try.underlying3 hy0
  obtain ⟨b, e1, rfl, wb⟩ := DataW.trod_int Try.underlying3 hy1
  obtain ⟨c, e2, rfl, wc⟩ := DataW.trod_int Try.underlying3 hy2
  obtain ⟨q, e3, rfl⟩ := DataW.trod_bool Try.underlying4 hy3
  simp at e0 e1 e2 e3
  subst e0 e1 e2 e3
  exact ⟨a, b, c, q, rfl, rfl, rfl, wa, wb, wc⟩
theorem shut_ctl {k ns nr : Int} {q : Bool} (h : CtlWf k ns nr) :
    DataW.Trod enc Try.prog w base spare held 23 (.agg #[.int .i64 k, .int .i64 ns, .int .i64 nr, .bool q]) (.agg [.lit (.int .i64 k), .lit (.int .i64 ns), .lit (.int .i64 nr), .lit (.bool q)]) [] :=
  shut_agg4 (y0 := (.lit (.int .i64 k), [])) (y1 := (.lit (.int .i64 ns), [])) (y2 := (.lit (.int .i64 nr), [])) (y3 := (.lit (.bool q), [])) Try.underlying23 (by kernel_rfl) cellsCtl
    ⟨1, by simp [DataW.trod, Try.underlying3, h.1]⟩ ⟨1, by simp [DataW.trod, Try.underlying3, h.2.1]⟩ ⟨1, by simp [DataW.trod, Try.underlying3, h.2.2]⟩ ⟨1, by simp [DataW.trod, Try.underlying4]⟩
end
end Go.Proofs.Ythakcaofihacdaa

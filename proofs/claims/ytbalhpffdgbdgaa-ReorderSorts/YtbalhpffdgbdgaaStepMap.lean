/- A map's look-up, store and delete at an operation, by their run equations. No condition. -/
import Derived.Test.YtbalhpffdgbdgaaMapRow
import Derived.Test.YtbalhpffdgbdgaaStepApp
import Derived.Test.YtbalhpffdgbdgaaClearRun
import Derived.Maps.OwnOps
import Derived.BigQuiet
namespace Go.Proofs.Ytbalhpffdgbdgaa
open Go
set_option linter.unusedVariables false

section
variable {P : Program} (w : World) {ops : Array Oper} {rest : List Oper} {o : Oper} {a : Act} {Q : Exit → Act → World → Prop} {K : Act → World → Prop}
theorem wp_mapUpdate_run (m x v : Operand) (t : TypeId) (ho : o.op = Op.mapUpdate t m x v) (vm vx vv : Value) (hm : a.eval m = vm) (hx : a.eval x = vx) (hv : a.eval v = vv) (w' : World)
    (hr : (Instr.mapUpdate t vm vx vv).run P w = .ok () w') (h : K (a.put o.dst undef) w') : o.wp P a w K Q := by
  unfold Oper.wp
  simp [execOp, ho, hm, hx, hv, hr, Result.andThen]
  exact h
theorem wpList_mapUpdate_run (hgd : o.guard = none) (m x v : Operand) (t : TypeId) (ho : o.op = Op.mapUpdate t m x v) (vm vx vv : Value) (hm : a.eval m = vm) (hx : a.eval x = vx) (hv : a.eval v = vv) (w' : World)
    (hr : (Instr.mapUpdate t vm vx vv).run P w = .ok () w') (h : wpList P ops Q rest (a.put o.dst undef) w') : wpList P ops Q (o :: rest) a w :=
  wpList_plain hgd fun _ hK => wp_mapUpdate_run w m x v t ho vm vx vv hm hx hv w' hr (hK _ _ h)
theorem step_mapUpdate_run {E : Prop} (hgd : o.guard = none) (m x v : Operand) (t : TypeId) (ho : o.op = Op.mapUpdate t m x v) (vm vx vv : Value) (hm : a.eval m = vm) (hx : a.eval x = vx) (hv : a.eval v = vv) (w' : World)
    (hr : (Instr.mapUpdate t vm vx vv).run P w = .ok () w') (h : K (a.put o.dst undef) w') :
    if Region.wanted o (yielded ops a.tmps) = true then Oper.wp P o a w K Q else E := by
  have hw : Region.wanted o (yielded ops a.tmps) = true := by simp [Region.wanted, hgd]
  rw [if_pos hw]
  exact wp_mapUpdate_run w m x v t ho vm vx vv hm hx hv w' hr h
theorem wpList_lookup_run (hgd : o.guard = none) (m x : Operand) (t : TypeId) (ho : o.op = Op.lookup t m x true) (vm vx : Value) (hm : a.eval m = vm) (hx : a.eval x = vx) (v' : Value)
    (hr : (Instr.lookup t vm vx true).run P w = .ok v' w) (h : wpList P ops Q rest (a.put o.dst v') w) : wpList P ops Q (o :: rest) a w :=
  wpList_plain hgd fun _ hK => by
    unfold Oper.wp
    simp [execOp, ho, hm, hx, hr, Result.andThen]
    exact hK _ _ h
/-- a look-up in a region that draws its order and only reads -/
theorem quiet_lookup {C : World → Prop} {K : Act → Prop} (m x : Operand) (t : TypeId) (ho : o.op = Op.lookup t m x true) (vm vx : Value) (hm : a.eval m = vm) (hx : a.eval x = vx) (v : Value)
    (hr : ∀ w, C w → (Instr.lookup t vm vx true).run P w = .ok v w) (hk : K (a.put o.dst v)) : o.quiet P a C K :=
  ⟨v, fun w hw => by
    unfold Oper.quietAt
    simp [execOp, ho, hm, hx, hr w hw, Result.andThen, Oper.quietUpon], hk⟩
theorem wpList_delete_run (hgd : o.guard = none) (m x : Operand) (t k : TypeId) (ho : o.op = Op.call { callee := Callee.builtin Builtin.delete, args := #[m, x], argTypes := #[t, k] }) (vm vx : Value) (hm : a.eval m = vm) (hx : a.eval x = vx) (w' : World)
    (hr : (Builtin.delete_ #[t, k] o.type #[vm, vx]).run P w = .ok (.tuple #[]) w') (h : wpList P ops Q rest (a.put o.dst (.tuple #[])) w') : wpList P ops Q (o :: rest) a w :=
  wpList_plain hgd fun _ hK => by
    unfold Oper.wp
    simp [execOp, ho, resolve, invoke, builtin, hm, hx, hr, Result.andThen]
    exact hK _ _ h
theorem wpList_len_run (hgd : o.guard = none) (m : Operand) (t : TypeId) (ho : o.op = Op.call { callee := Callee.builtin Builtin.len, args := #[m], argTypes := #[t] }) (vm : Value) (hm : a.eval m = vm) (v' : Value)
    (hr : (Builtin.len_ #[t] o.type #[vm]).run P w = .ok v' w) (h : wpList P ops Q rest (a.put o.dst v') w) : wpList P ops Q (o :: rest) a w :=
  wpList_plain hgd fun _ hK => by
    unfold Oper.wp
    simp [execOp, ho, resolve, invoke, builtin, hm, hr, Result.andThen]
    exact hK _ _ h
end
end Go.Proofs.Ytbalhpffdgbdgaa

/- The value of an event; sums and differences of tallies; what a store leaves alone. No condition. -/
import Derived.Test.YtnjmnklkbldmgaaTalMem
import Derived.BigQuiet
import Derived.StillTailTactics
import Derived.Deep.Cut
namespace Go.Proofs.Ytnjmnklkbldmgaa
open Go.RowKit
set_option linter.unusedVariables false

theorem only_put {b : Nat} {w w1 : World} (o : Only (fun k => k = b) w w1) (j : Nat) (v : Value) : Only (fun k => k = b) w (w1.setCell ⟨b, j, none⟩ v) := o.setCell (p := ⟨b, j, none⟩) (.inl rfl) v
theorem Only.drewN {F : Nat → Prop} {w w1 : World} (o : Only F w w1) (m : Nat) : Only F w (w1.drewN m) := ⟨o.os, o.tape, o.output, o.size, o.block⟩
theorem Only.drew {F : Nat → Prop} {w w1 : World} (o : Only F w w1) : Only F w w1.drew := ⟨o.os, o.tape, o.output, o.size, o.block⟩
/-- an event as it is kept -/
def code (ok : Bool) : Nat := if ok then 1 else 2
theorem code_le (ok : Bool) : code ok ≤ 2 := by cases ok <;> decide
theorem run_subc {a b c d : Int} (ha : a.natAbs < 4503599627370496) (hb : b.natAbs < 4503599627370496) (hc : c.natAbs < 4503599627370496) (hd : d.natAbs < 4503599627370496) (t : TypeId) (w : World) :
    (binOp .sub t (.complex .f64 (fl a) (fl b)) (.complex .f64 (fl c) (fl d))).run Try.prog w = .ok (.complex .f64 (fl (a - c)) (fl (b - d))) w := by
  refine run_complex_sum w .sub (.inr rfl) t .f64 _ _ _ _ _ _ ?_
  unfold cSumBits
  rw [sub_fl (by omega) (by omega), sub_fl (by omega) (by omega)]
  rfl
theorem run_addc' {a b c d : Int} (ha : a.natAbs < 4503599627370496) (hb : b.natAbs < 4503599627370496) (hc : c.natAbs < 4503599627370496) (hd : d.natAbs < 4503599627370496) (t : TypeId) (w : World) :
    (binOp .add t (.complex .f64 (fl a) (fl b)) (.complex .f64 (fl c) (fl d))).run Try.prog w = .ok (.complex .f64 (fl (a + c)) (fl (b + d))) w := by
  refine run_complex_sum w .add (.inl rfl) t .f64 _ _ _ _ _ _ ?_
  unfold cSumBits
  rw [add_fl (by omega) (by omega), add_fl (by omega) (by omega)]
  rfl
end Go.Proofs.Ytnjmnklkbldmgaa

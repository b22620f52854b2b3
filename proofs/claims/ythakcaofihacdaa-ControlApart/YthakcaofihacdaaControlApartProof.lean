/- For every two control fields and either modulus, different ones have different encodings, none of which begins with the other (P1202). No condition. -/
import Derived.Test.YthakcaofihacdaaRows
import Derived.Test.YthakcaofihacdaaControlApartWalk
import Derived.WalkKit
import Derived.ProofKit
import Derived.OpenShut
import Derived.ShutString
import Derived.ChangeOld
import Derived.Below
namespace Go.Proofs.Ythakcaofihacdaa.controlApart
open Go.ChangeShapes Go.WideShapes Go.ChangeAt Go.RowKit
open Go.ChangeMaps (open_string shut_string)
set_option linter.unusedVariables false

theorem own : ownKnob Try.prog.godebug = none := by kernel_rfl

theorem walk (ck0 cs0 cr0 : Int) (cq0 : Bool) (ck1 cs1 cr1 : Int) (cq1 : Bool) (a2 : Bool) (w0 : CtlWf ck0 cs0 cr0) (w1 : CtlWf ck1 cs1 cr1) (w : World) :
    Calls Try.prog 5 #[.agg #[.int .i64 ck0, .int .i64 cs0, .int .i64 cr0, .bool cq0], .agg #[.int .i64 ck1, .int .i64 cs1, .int .i64 cr1, .bool cq1], .bool a2] w fun e w' => e = .returned (.bool true) ∧ Below w.heap.size w w' := by
  exact ControlApart_walk ck0 cs0 cr0 cq0 ck1 cs1 cr1 cq1 a2 w0 w1 w

set_option maxRecDepth 100000 in
theorem lifted (os : Os) (started : os.Started) (H : Type) (enc : TypeId × Value → H) :
    ReturnsInHanded {} Try.checked os 5 .any (Rows.controlApartSpec.pre6 enc Try.prog Try.f5 Rows.controlApartRow.domain false) (Rows.controlApartSpec.post enc Try.prog Try.f5 false true false false) := by
  refine returnsInHanded_of_change (C := Try.checked) own started (by kernel_rfl) Try.func5
    (ChangeSpec.witness6 (enc := enc) (C := Try.checked) false ⟨#[], #[.agg #[.int .i64 0, .int .i64 0, .int .i64 0, .bool false], .agg #[.int .i64 0, .int .i64 0, .int .i64 0, .bool false], .bool false], []⟩ 8 (by kernel_rfl) (by kernel_rfl) (by kernel_rfl) (by kernel_rfl)) ?_
  intro W base args ds gs before hval0 hW hcnd _
  have hval : ∀ (j : Nat) t v, Try.f5.params[j]? = some t → args[j]? = some v → Value.okWide Try.prog W .any base t v := hval0
  have hW' := hW
  obtain ⟨p, q, hA0, hV, rfl, hfz, hnd⟩ := hW
  have hA : DataW.TrodAll enc Try.prog W 0 (fun _ => true) true Try.f5.params.toList args.toList ds p := hA0
  rw [Try.params5] at hA hval
  obtain ⟨v0, vs0, d0, ds0, p0, q0, hargs, rfl, rfl, h0, r0⟩ := trodAll_cons hA
  obtain ⟨v1, vs1, d1, ds1, p1, q1, rfl, rfl, rfl, h1, r1⟩ := trodAll_cons r0
  obtain ⟨v2, vs2, d2, ds2, p2, q2, rfl, rfl, rfl, h2, r2⟩ := trodAll_cons r1
  obtain ⟨rfl, rfl, rfl⟩ := trodAll_nil r2
  obtain rfl : args = #[v0, v1, v2] := by cases args; simp_all
  obtain ⟨rfl, rfl⟩ := trodVars_none hV
  obtain ⟨ck0, cs0, cr0, cq0, rfl, rfl, rfl, w0⟩ := open_ctl (hval 0 23 v0 rfl rfl) h0
  obtain ⟨ck1, cs1, cr1, cq1, rfl, rfl, rfl, w1⟩ := open_ctl (hval 1 23 v1 rfl rfl) h1
  obtain ⟨a2, rfl, rfl, rfl⟩ := open_bool Try.underlying4 (hval 2 4 v2 rfl rfl) h2
  clear hA0 hval0
  refine (walk ck0 cs0 cr0 cq0 ck1 cs1 cr1 cq1 a2 w0 w1 W).mono fun e W' ⟨he, bel⟩ => ?_
  subst he
  exact ⟨_, rfl, _, _, _, [], _, [], hW', (trodAll_cons_mk (shut_bool Try.underlying4 _) trodAll_mk0), (trodAll_cons_mk (shut_ctl w0) (trodAll_cons_mk (shut_ctl w1) (trodAll_cons_mk (shut_bool Try.underlying4 _) trodAll_mk0))), rfl, bel.frame _, fun h => by cases h⟩

theorem over : Rows.controlApartRow.holds Try.pinned (OpenSpec.ofChange Rows.controlApartSpec) :=
  OpenClaim.holds_of_wide 5 Try.f5 rfl rfl rfl rfl rfl rfl rfl ⟨rfl, rfl, rfl, rfl, rfl⟩ rfl rfl rfl rfl rfl (by kernel_rfl) Try.func5 (by kernel_rfl)
    (of_decide_eq_true (by kernel_rfl)) (by unfold Func.isWrapper; first | (rw [if_pos (by decide +kernel)]; kernel_rfl) | (rw [if_neg (by decide +kernel)]; exact ⟨rfl, rfl⟩))
    (fun os started H enc _ => lifted os started H enc)

theorem proved : Rows.ControlApartSaid :=
  over
end Go.Proofs.Ythakcaofihacdaa.controlApart
namespace Go.Proofs.Ythakcaofihacdaa
/-- The given statement: For every two control fields and either modulus, different ones have different encodings, none of which begins with the other (P1202). No condition. -/
theorem ControlApart_holds : Rows.ControlApartSaid :=
  controlApart.proved
#print axioms ControlApart_holds
end Go.Proofs.Ythakcaofihacdaa

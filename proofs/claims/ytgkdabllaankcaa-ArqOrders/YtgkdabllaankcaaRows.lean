/-
  No cell of these rows narrows 'for every input' (looked for: loops, veiled, ifaces, maps, wideKeys, modest, calm, conditions, laid).
  DERIVED. THE GIVEN ROWS OF THIS SEAT. 4 by the template 'for every input the law returns true; each argument reads behind the call as it read before'; 0 by the template 'total and deterministic' (their statements: YtgkdabllaankcaaTotals.lean).
  GIVEN WITH THE SEED: the statements are not yours to turn. If you find one false, say at which input.
  Laid BY PROGRAM, IN A SANDBOX (cutbox-rows.mjs): the forced cells as the released guide's own fill.sh prints them over the translation f277bb46b1f8dbcb… (all of the seat's roots in one cut). By AI agents, Wed Nov 11 2026. No macro, syntax, notation, axiom, sorry.
-/
import Derived.Test.YtgkdabllaankcaaChecked
import GoSem.Claim
import GoSem.ClaimJoined
import GoSem.ClaimMapViews
import Derived.JoinedTies
import Derived.KernelRfl
namespace Go.Proofs.Ytgkdabllaankcaa
/- THE CELL 'sum', in the pinned program and in every row, IS THE sha256 OF THE DUMP (.gsa) THAT YtgkdabllaankcaaProg.lean LOADS. Nothing in Lean hashes anything: it is a label: what it is worth is what the hold of that sum in a sandbox is worth. -/
noncomputable def Try.pinned : Pinned := { name := "ytgkdabllaankcaa", sum := "f277bb46b1f8dbcb18b864388c8fc03a707f00e74cd8414fa03e766d6c3495bc", checked := Try.checked }
namespace Rows
def none {H : Type} : Left H := { results := [], args := [] }

/-- 'signalmanlaw15.ArqOrders': WHATEVER THE INPUT: true; the input reads as it did. -/
def arqOrdersSpec : ChangeSpec := { name := "arqOrders", fn := fun _ => fun
  | [d1, d2, d3] => { results := [.lit (.bool true)], args := [d1, d2, d3] }
  | _ => none }
def arqOrdersRow : OpenClaim := { program := "ytgkdabllaankcaa", sum := "f277bb46b1f8dbcb18b864388c8fc03a707f00e74cd8414fa03e766d6c3495bc", func := "signalman/signalmanlaw15.ArqOrders", spec := "arqOrders", apart := false }
def ArqOrdersSaid : Prop := arqOrdersRow.holds Try.pinned (OpenSpec.ofChange arqOrdersSpec)

/-- ITS FALSE NEIGHBOUR: 'it returns false'. Refute it at one input. -/
def arqOrdersWrong : ChangeSpec := { name := "arqOrders", fn := fun _ => fun
  | [d1, d2, d3] => { results := [.lit (.bool false)], args := [d1, d2, d3] }
  | _ => none }
def ArqOrdersWrongFalsely : Prop := arqOrdersRow.holds Try.pinned (OpenSpec.ofChange arqOrdersWrong)

/-- 'signalmanlaw15.ArqDelivers': WHATEVER THE INPUT: true; the input reads as it did. -/
def arqDeliversSpec : ChangeSpec := { name := "arqDelivers", fn := fun _ => fun
  | [d1, d2, d3] => { results := [.lit (.bool true)], args := [d1, d2, d3] }
  | _ => none }
def arqDeliversRow : OpenClaim := { program := "ytgkdabllaankcaa", sum := "f277bb46b1f8dbcb18b864388c8fc03a707f00e74cd8414fa03e766d6c3495bc", func := "signalman/signalmanlaw15.ArqDelivers", spec := "arqDelivers", apart := false }
def ArqDeliversSaid : Prop := arqDeliversRow.holds Try.pinned (OpenSpec.ofChange arqDeliversSpec)

/-- ITS FALSE NEIGHBOUR: 'it returns false'. Refute it at one input. -/
def arqDeliversWrong : ChangeSpec := { name := "arqDelivers", fn := fun _ => fun
  | [d1, d2, d3] => { results := [.lit (.bool false)], args := [d1, d2, d3] }
  | _ => none }
def ArqDeliversWrongFalsely : Prop := arqDeliversRow.holds Try.pinned (OpenSpec.ofChange arqDeliversWrong)

/-- 'signalmanlaw15.ArqCloses': WHATEVER THE INPUT: true; the input reads as it did. -/
def arqClosesSpec : ChangeSpec := { name := "arqCloses", fn := fun _ => fun
  | [d1, d2, d3] => { results := [.lit (.bool true)], args := [d1, d2, d3] }
  | _ => none }
def arqClosesRow : OpenClaim := { program := "ytgkdabllaankcaa", sum := "f277bb46b1f8dbcb18b864388c8fc03a707f00e74cd8414fa03e766d6c3495bc", func := "signalman/signalmanlaw15.ArqCloses", spec := "arqCloses", apart := false }
def ArqClosesSaid : Prop := arqClosesRow.holds Try.pinned (OpenSpec.ofChange arqClosesSpec)

/-- ITS FALSE NEIGHBOUR: 'it returns false'. Refute it at one input. -/
def arqClosesWrong : ChangeSpec := { name := "arqCloses", fn := fun _ => fun
  | [d1, d2, d3] => { results := [.lit (.bool false)], args := [d1, d2, d3] }
  | _ => none }
def ArqClosesWrongFalsely : Prop := arqClosesRow.holds Try.pinned (OpenSpec.ofChange arqClosesWrong)

/-- 'signalmanlaw15.ArqStale': WHATEVER THE INPUT: true; the input reads as it did. -/
def arqStaleSpec : ChangeSpec := { name := "arqStale", fn := fun _ => fun
  | [d1, d2, d3] => { results := [.lit (.bool true)], args := [d1, d2, d3] }
  | _ => none }
def arqStaleRow : OpenClaim := { program := "ytgkdabllaankcaa", sum := "f277bb46b1f8dbcb18b864388c8fc03a707f00e74cd8414fa03e766d6c3495bc", func := "signalman/signalmanlaw15.ArqStale", spec := "arqStale", apart := false }
def ArqStaleSaid : Prop := arqStaleRow.holds Try.pinned (OpenSpec.ofChange arqStaleSpec)

/-- ITS FALSE NEIGHBOUR: 'it returns false'. Refute it at one input. -/
def arqStaleWrong : ChangeSpec := { name := "arqStale", fn := fun _ => fun
  | [d1, d2, d3] => { results := [.lit (.bool false)], args := [d1, d2, d3] }
  | _ => none }
def ArqStaleWrongFalsely : Prop := arqStaleRow.holds Try.pinned (OpenSpec.ofChange arqStaleWrong)

/- THE SECOND FORM. 'bulk': how many values and letters a reading holds, each counted each time it is reached (what is shared counts as often as it is met; a slice's spare places count too). A statement '..UptoSaid' is the law's where the arguments, and the package variables that the reading takes, are together of bulk at most 1048576: NARROWER than '..Said'. Prove '..Said' where nothing that the law and all that it calls make is longer than what came in: it says more and counts as full. Else prove '..UptoSaid'. A law counts once. -/
mutual
def uptoBulk {H : Type} : DataW H → Nat
  | .lit (.string bytes) => bytes.length + 1
  | .lit _ => 1
  | .nil => 1
  | .ptr d => uptoBulk d + 1
  | .slice elems spare => uptoBulkAll elems + uptoBulkAll spare + 1
  | .agg parts => uptoBulkAll parts + 1
  | .iface _ d => uptoBulk d + 1
  | .map entries => uptoBulkEntries entries + 1
  | .held _ => 1
def uptoBulkAll {H : Type} : List (DataW H) → Nat
  | [] => 0
  | d :: r => uptoBulk d + uptoBulkAll r
def uptoBulkEntries {H : Type} : List (Lit × DataW H) → Nat
  | [] => 0
  | x :: r => uptoBulkEntry x + uptoBulkEntries r
def uptoBulkEntry {H : Type} : Lit × DataW H → Nat
  | (.string bytes, d) => bytes.length + uptoBulk d + 1
  | (_, d) => uptoBulk d + 1
 end
def uptoSmall : (H : Type) → List (DataW H) → Bool := fun _ ds => decide (uptoBulkAll ds ≤ 1048576)
def OpenSpec.upto (s : _root_.Go.ChangeSpec) : _root_.Go.OpenSpec := { _root_.Go.OpenSpec.ofChange s with cond := some uptoSmall }

/-- 'signalmanlaw15.ArqOrders', WHERE WHAT IT READS IS OF BULK AT MOST 1048576: true; the input reads as it did. -/
def arqOrdersUptoRow : OpenClaim := { program := "ytgkdabllaankcaa", sum := "f277bb46b1f8dbcb18b864388c8fc03a707f00e74cd8414fa03e766d6c3495bc", func := "signalman/signalmanlaw15.ArqOrders", spec := "arqOrders", apart := false, narrowed := true }
def ArqOrdersUptoSaid : Prop := arqOrdersUptoRow.holds Try.pinned (OpenSpec.upto arqOrdersSpec)

/-- 'signalmanlaw15.ArqDelivers', WHERE WHAT IT READS IS OF BULK AT MOST 1048576: true; the input reads as it did. -/
def arqDeliversUptoRow : OpenClaim := { program := "ytgkdabllaankcaa", sum := "f277bb46b1f8dbcb18b864388c8fc03a707f00e74cd8414fa03e766d6c3495bc", func := "signalman/signalmanlaw15.ArqDelivers", spec := "arqDelivers", apart := false, narrowed := true }
def ArqDeliversUptoSaid : Prop := arqDeliversUptoRow.holds Try.pinned (OpenSpec.upto arqDeliversSpec)

/-- 'signalmanlaw15.ArqCloses', WHERE WHAT IT READS IS OF BULK AT MOST 1048576: true; the input reads as it did. -/
def arqClosesUptoRow : OpenClaim := { program := "ytgkdabllaankcaa", sum := "f277bb46b1f8dbcb18b864388c8fc03a707f00e74cd8414fa03e766d6c3495bc", func := "signalman/signalmanlaw15.ArqCloses", spec := "arqCloses", apart := false, narrowed := true }
def ArqClosesUptoSaid : Prop := arqClosesUptoRow.holds Try.pinned (OpenSpec.upto arqClosesSpec)

/-- 'signalmanlaw15.ArqStale', WHERE WHAT IT READS IS OF BULK AT MOST 1048576: true; the input reads as it did. -/
def arqStaleUptoRow : OpenClaim := { program := "ytgkdabllaankcaa", sum := "f277bb46b1f8dbcb18b864388c8fc03a707f00e74cd8414fa03e766d6c3495bc", func := "signalman/signalmanlaw15.ArqStale", spec := "arqStale", apart := false, narrowed := true }
def ArqStaleUptoSaid : Prop := arqStaleUptoRow.holds Try.pinned (OpenSpec.upto arqStaleSpec)

end Rows
end Go.Proofs.Ytgkdabllaankcaa

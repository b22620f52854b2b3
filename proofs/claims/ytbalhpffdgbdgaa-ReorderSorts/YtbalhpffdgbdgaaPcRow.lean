/- Rows of slices of bytes: each leads to its own bytes. No condition. -/
import Derived.Test.YtbalhpffdgbdgaaMidRow
namespace Go.Proofs.Ytbalhpffdgbdgaa
open Go.RowKit
set_option linter.unusedVariables false

theorem etRow : ET 44 28 (.slice none 0 0) 24 := ⟨Try.underlying44, by kernel_rfl, rfl, by decide⟩
/-- the value v is a slice of the octets x, in F -/
def Pc (w : World) (F : Nat → Prop) (v : Value) (x : List UInt8) : Prop := ∃ B d, v = .slice B x.length d ∧ Mid w B d x ∧ ∀ k, blk B = some k → F k
/-- the values vs are slices of the pieces l, in F -/
def Pcs (w : World) (F : Nat → Prop) : List Value → List (List UInt8) → Prop
  | [], [] => True
  | v :: vs, x :: l => Pc w F v x ∧ Pcs w F vs l
  | _, _ => False
section
variable {w w' : World} {F G : Nat → Prop} {vs us : List Value} {l m : List (List UInt8)} {v : Value} {x : List UInt8}
theorem Pcs.len : ∀ {vs : List Value} {l : List (List UInt8)}, Pcs w F vs l → vs.length = l.length
  | [], [], _ => rfl
  | _ :: _, _ :: _, h => by simp [Pcs.len h.2]
  | [], _ :: _, h => h.elim
  | _ :: _, [], h => h.elim
theorem Pc.only {H : Nat → Prop} (h : Pc w F v x) (o : Only G w w') (hG : ∀ k, F k → (∃ cur, w.heap[k]? = some (.cells cur 5 (0, 0))) → ¬ G k) (hH : ∀ k, F k → H k) : Pc w' H v x := by
  obtain ⟨B, d, h1, h2, h3⟩ := h
  exact ⟨B, d, h1, h2.only o (fun k hk => hG k (h3 k hk) (h2.type k hk)), fun k hk => hH k (h3 k hk)⟩
theorem Pcs.only {H : Nat → Prop} (o : Only G w w') (hG : ∀ k, F k → (∃ cur, w.heap[k]? = some (.cells cur 5 (0, 0))) → ¬ G k) (hH : ∀ k, F k → H k) : ∀ {vs : List Value} {l : List (List UInt8)}, Pcs w F vs l → Pcs w' H vs l
  | [], [], _ => trivial
  | _ :: _, _ :: _, h => ⟨h.1.only o hG hH, Pcs.only o hG hH h.2⟩
  | [], _ :: _, h => h.elim
  | _ :: _, [], h => h.elim
theorem Pcs.app : ∀ {vs : List Value} {l : List (List UInt8)}, Pcs w F vs l → Pc w F v x → Pcs w F (vs ++ [v]) (l ++ [x])
  | [], [], _, h' => ⟨h', trivial⟩
  | _ :: _, _ :: _, h, h' => ⟨h.1, Pcs.app h.2 h'⟩
  | [], _ :: _, h, _ => h.elim
  | _ :: _, [], h, _ => h.elim
theorem Pcs.take : ∀ {vs : List Value} {l : List (List UInt8)}, Pcs w F vs l → ∀ k, Pcs w F (vs.take k) (l.take k)
  | [], [], _, k => by simp [Pcs]
  | _ :: _, _ :: _, h, 0 => by simp [Pcs]
  | _ :: _, _ :: _, h, k + 1 => ⟨h.1, Pcs.take h.2 k⟩
  | [], _ :: _, h, _ => h.elim
  | _ :: _, [], h, _ => h.elim
theorem Pcs.get : ∀ {vs : List Value} {l : List (List UInt8)}, Pcs w F vs l → ∀ {i : Nat}, i < l.length → ∃ B d, vs[i]? = some (.slice B (l.getD i []).length d)
  | [], [], _, i, hi => by simp at hi
  | _ :: _, _ :: _, h, 0, hi => by
    obtain ⟨B, d, h1, _⟩ := h.1
    exact ⟨B, d, by simp [h1]⟩
  | _ :: _, _ :: _, h, i + 1, hi => by
    obtain ⟨B, d, h1⟩ := Pcs.get h.2 (i := i) (by simpa using hi)
    exact ⟨B, d, by simpa using h1⟩
  | [], _ :: _, h, _, _ => h.elim
  | _ :: _, [], h, _, _ => h.elim
theorem Pcs.cons_inv {y : List UInt8} : ∀ {vs : List Value}, Pcs w F vs (y :: l) → ∃ v us, vs = v :: us ∧ Pc w F v y ∧ Pcs w F us l
  | [], h => h.elim
  | v :: us, h => ⟨v, us, rfl, h.1, h.2⟩
end
end Go.Proofs.Ytbalhpffdgbdgaa

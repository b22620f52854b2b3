/- A pipe of the program and a slice of the law's own beside it. No condition. -/
import Derived.Test.YtfneegndlkbgpaaPipAlive
namespace Go.Proofs.Ytfneegndlkbgpaa
open Go.RowKit
set_option linter.unusedVariables false

/-- The pipe is in the state s; the slice at B, with room for c, holds the bytes l, apart from it. -/
def Want (w v : World) (F : Nat → Prop) (p : Nat) (s : Pip) (B : Option Addr) (c : Nat) (l : List UInt8) : Prop :=
  One w v F p s ∧ Mid v B c l ∧ ∀ k, blk B = some k → ¬ F k ∧ w.heap.size ≤ k
section
variable {w v v' : World} {F : Nat → Prop} {p : Nat} {s : Pip} {B : Option Addr} {c : Nat} {l : List UInt8}
theorem Want.turned (h : Want w v F p s B c l) {s' : Pip} (h1 : One w v' (more F v v') p s') (o : Only F v v') : Want w v' (more F v v') p s' B c l :=
  ⟨h1, h.2.1.only o (fun k hk => (h.2.2 k hk).1), fun k hk => ⟨fun hm => hm.elim (h.2.2 k hk).1 (fun h' => by have := h.2.1.blk_lt k hk; omega), (h.2.2 k hk).2⟩⟩
theorem Want.same (h : Want w v F p s B c l) {s' : Pip} (h1 : One w v' F p s') (o : Only F v v') : Want w v' F p s' B c l := ⟨h1, h.2.1.only o (fun k hk => (h.2.2 k hk).1), h.2.2⟩
/-- the slice has turned -/
theorem Want.slice (h : Want w v F p s B c l) {B' : Option Addr} {c' : Nat} {l' : List UInt8} (o : Only (fun k => blk B = some k) v v') (hm : Mid v' B' c' l') (kin : ∀ k, blk B' = some k → blk B = some k ∨ v.heap.size ≤ k) : Want w v' F p s B' c' l' := by
  refine ⟨⟨h.1.1.only o (fun k hk hb => (h.2.2 k hb).1 hk), h.1.2.1, h.1.2.2.trans (o.below (fun k hk => (h.2.2 k hk).2) h.1.2.2.size)⟩, hm, fun k hk => ?_⟩
  rcases kin k hk with h' | h'
  · exact h.2.2 k h'
  · exact ⟨fun hF => by have := h.1.1.lt k hF; omega, Nat.le_trans h.1.2.2.size h'⟩
theorem Want.drewN (h : Want w v F p s B c l) (n : Nat) : Want w (v.drewN n) F p s B c l := ⟨h.1.drewN n, h.2.1, h.2.2⟩
end
end Go.Proofs.Ytfneegndlkbgpaa

/- A slice of bools that is read: what it holds. No condition. -/
import Derived.Test.YtfhlogkdmjdpdaaMemOnly
namespace Go.Proofs.Ytfhlogkdmjdpdaa
open Go.RowKit
set_option linter.unusedVariables false

/-- The slice value at A, of l.length elements, reads as the bools l. -/
def RdB (w : World) (A : Option Addr) (l : List Bool) : Prop :=
  l ≠ [] → ∃ b off, A = some ⟨b, off, none⟩ ∧ ∀ j, j < l.length → w.cell? ⟨b, off + j, none⟩ = some (.bool (l.getD j false))
theorem RdB.nil (w : World) (A : Option Addr) : RdB w A [] := fun h => absurd rfl h
theorem RdB.at_ {w : World} {A : Option Addr} {l : List Bool} (h : RdB w A l) {k : Nat} (hk : k < l.length) :
    ∃ b off, A = some ⟨b, off, none⟩ ∧ b < w.heap.size ∧ w.cell? ⟨b, off + k, none⟩ = some (.bool (l.getD k false)) := by
  obtain ⟨b, off, e, hc⟩ := h (by rintro rfl; simp at hk)
  exact ⟨b, off, e, World.block_lt_of_cell? w _ (hc k hk), hc k hk⟩
theorem RdB.only {F : Nat → Prop} {w w' : World} {A : Option Addr} {l : List Bool} (h : RdB w A l) (o : Only F w w') (hF : ∀ k, blk A = some k → ¬ F k) : RdB w' A l := fun hl => by
  obtain ⟨b, off, e, hc⟩ := h hl
  refine ⟨b, off, e, fun j hj => ?_⟩
  have hb := World.block_lt_of_cell? w _ (hc j hj)
  rw [← hc j hj]
  exact World.cell?_of_block (w := w) (o.block b hb (hF b (by rw [e]; rfl)))
theorem RdB.below {w w' : World} {A : Option Addr} {l : List Bool} (h : RdB w A l) (b : Below w.heap.size w w') : RdB w' A l := h.only (F := fun _ => False) (Only.of_below _ b) (fun _ _ h => h)
end Go.Proofs.Ytfhlogkdmjdpdaa

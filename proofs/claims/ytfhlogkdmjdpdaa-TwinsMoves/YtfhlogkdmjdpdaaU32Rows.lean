/- A slice of uint32 that is read: what it holds. No condition. -/
import Derived.Test.YtfhlogkdmjdpdaaMemOnly
namespace Go.Proofs.Ytfhlogkdmjdpdaa
open Go.RowKit
set_option linter.unusedVariables false

/-- the value of a number -/
def uv (x : Nat) : Value := .int .u32 (x : Int)
/-- The slice value at A, of l.length elements, reads as the numbers l. -/
def RdU (w : World) (A : Option Addr) (l : List Nat) : Prop :=
  l ≠ [] → ∃ b off, A = some ⟨b, off, none⟩ ∧ ∀ j, j < l.length → w.cell? ⟨b, off + j, none⟩ = some (.int .u32 ((l.getD j 0 : Nat) : Int))
theorem RdU.nil (w : World) (A : Option Addr) : RdU w A [] := fun h => absurd rfl h
theorem RdU.at_ {w : World} {A : Option Addr} {l : List Nat} (h : RdU w A l) {k : Nat} (hk : k < l.length) :
    ∃ b off, A = some ⟨b, off, none⟩ ∧ b < w.heap.size ∧ w.cell? ⟨b, off + k, none⟩ = some (.int .u32 ((l.getD k 0 : Nat) : Int)) := by
  obtain ⟨b, off, e, hc⟩ := h (by rintro rfl; simp at hk)
  exact ⟨b, off, e, World.block_lt_of_cell? w _ (hc k hk), hc k hk⟩
theorem RdU.only {F : Nat → Prop} {w w' : World} {A : Option Addr} {l : List Nat} (h : RdU w A l) (o : Only F w w') (hF : ∀ k, blk A = some k → ¬ F k) : RdU w' A l := fun hl => by
  obtain ⟨b, off, e, hc⟩ := h hl
  refine ⟨b, off, e, fun j hj => ?_⟩
  have hb := World.block_lt_of_cell? w _ (hc j hj)
  rw [← hc j hj]
  exact World.cell?_of_block (w := w) (o.block b hb (hF b (by rw [e]; rfl)))
theorem RdU.below {w w' : World} {A : Option Addr} {l : List Nat} (h : RdU w A l) (b : Below w.heap.size w w') : RdU w' A l := h.only (F := fun _ => False) (Only.of_below _ b) (fun _ _ h => h)
theorem RdU.of_row {w : World} {a : Option Addr} {len cap : Nat} {zs : List Int}
    (h : (a = none ∧ len = 0 ∧ cap = 0 ∧ zs = []) ∨ ∃ x, a = some x ∧ len ≤ cap ∧ cap ≤ maxLen ∧ zs.length = cap ∧ (∀ i, i < zs.length → w.cell? (x.add i) = some (.int .u32 (zs.getD i 0))) ∧ ∀ n ∈ zs, (Lit.int .u32 n).wf = true) :
    ∃ l : List Nat, l.length = len ∧ len ≤ cap ∧ cap ≤ maxLen ∧ RdU w a l ∧ ∀ n ∈ l, n < 4294967296 := by
  rcases h with ⟨rfl, rfl, rfl, rfl⟩ | ⟨x, rfl, hl, hm, hz, hc, hw⟩
  · exact ⟨[], rfl, Nat.le_refl _, by decide, fun h => absurd rfl h, fun n hn => by cases hn⟩
  · refine ⟨(zs.take len).map Int.toNat, by simp; omega, hl, hm, fun hne => ?_, fun n hn => ?_⟩
    · have hpos : 0 < zs.length := by
        rcases Nat.eq_zero_or_pos zs.length with h0 | h0
        · exact absurd (by simp [List.eq_nil_of_length_eq_zero h0]) hne
        · exact h0
      obtain ⟨b, off, rfl, hcell⟩ := ints_at hc hpos
      refine ⟨b, off, rfl, fun j hj => ?_⟩
      simp at hj
      have hjz : j < zs.length := by omega
      have hb := bounds_u32 (hw zs[j] (List.getElem_mem hjz))
      rw [hcell j hjz]
      simp [hj, hjz]
      omega
    · obtain ⟨z, hz1, rfl⟩ := List.mem_map.1 hn
      have hb := bounds_u32 (hw z (List.mem_of_mem_take hz1))
      omega
end Go.Proofs.Ytfhlogkdmjdpdaa

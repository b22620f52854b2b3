/- The tables of the law ControlKnown. No condition. -/
import Derived.Test.YthakcaofihacdaaCtlAlive
import Derived.Test.YthakcaofihacdaaCtlRead
import Derived.Deep.RegionHeldLaw
namespace Go.Proofs.Ythakcaofihacdaa
open Go.RowKit
set_option linter.unusedVariables false

def rowC : Array Value := #[.int .i64 0, .int .i64 5, .int .i64 3, .bool true, .int .i64 1, .int .i64 0, .int .i64 7, .bool false, .int .i64 2, .int .i64 0, .int .i64 127, .bool true, .int .i64 3, .int .i64 0, .int .i64 0, .bool true, .int .i64 4, .int .i64 0, .int .i64 0, .bool false, .int .i64 5, .int .i64 0, .int .i64 0, .bool true, .int .i64 6, .int .i64 0, .int .i64 0, .bool false, .int .i64 7, .int .i64 0, .int .i64 0, .bool false, .int .i64 0, .int .i64 300, .int .i64 2, .bool false, .int .i64 1, .int .i64 0, .int .i64 130, .bool true]
def rowM : Array Value := #[.int .i64 128, .int .i64 128, .int .i64 128, .int .i64 128, .int .i64 128, .int .i64 128, .int .i64 32768, .int .i64 32768, .int .i64 32768, .int .i64 32768]
def rowS : Array Value := #[.string ⟨#[10, 7]⟩, .string ⟨#[1, 14]⟩, .string ⟨#[9, 255]⟩, .string ⟨#[127]⟩, .string ⟨#[99]⟩, .string ⟨#[83]⟩, .string ⟨#[15]⟩, .string ⟨#[135]⟩, .string ⟨#[88, 2, 4, 0]⟩, .string ⟨#[1, 0, 5, 1]⟩]
/-- the three tables -/
def tabs (W : World) : World := ((W.alloc (.cells #[.int .i64 0, .int .i64 5, .int .i64 3, .bool true, .int .i64 1, .int .i64 0, .int .i64 7, .bool false, .int .i64 2, .int .i64 0, .int .i64 127, .bool true, .int .i64 3, .int .i64 0, .int .i64 0, .bool true, .int .i64 4, .int .i64 0, .int .i64 0, .bool false, .int .i64 5, .int .i64 0, .int .i64 0, .bool true, .int .i64 6, .int .i64 0, .int .i64 0, .bool false, .int .i64 7, .int .i64 0, .int .i64 0, .bool false, .int .i64 0, .int .i64 300, .int .i64 2, .bool false, .int .i64 1, .int .i64 0, .int .i64 130, .bool true] 23)).alloc (.cells #[.int .i64 128, .int .i64 128, .int .i64 128, .int .i64 128, .int .i64 128, .int .i64 128, .int .i64 32768, .int .i64 32768, .int .i64 32768, .int .i64 32768] 3)).alloc (.cells #[.string ⟨#[10, 7]⟩, .string ⟨#[1, 14]⟩, .string ⟨#[9, 255]⟩, .string ⟨#[127]⟩, .string ⟨#[99]⟩, .string ⟨#[83]⟩, .string ⟨#[15]⟩, .string ⟨#[135]⟩, .string ⟨#[88, 2, 4, 0]⟩, .string ⟨#[1, 0, 5, 1]⟩] 9)
theorem tabs_below (W : World) : Below W.heap.size W (tabs W) := ba (ba (ba (Below.refl _ _)))
theorem tabs_size (W : World) : (tabs W).heap.size = W.heap.size + 1 + 1 + 1 := by unfold tabs; simp
theorem tabs_0 (W : World) : (tabs W).heap[W.heap.size]? = some (.cells rowC 23 (0, 0)) := by
  unfold tabs
  rw [Below.heap_alloc _ _ _ (by simp; omega), Below.heap_alloc _ _ _ (by simp)]
  exact heap_alloc_new W _
theorem tabs_1 (W : World) : (tabs W).heap[W.heap.size + 1]? = some (.cells rowM 3 (0, 0)) := by
  unfold tabs
  rw [Below.heap_alloc _ _ _ (by simp)]
  have h := heap_alloc_new (W.alloc (.cells #[.int .i64 0, .int .i64 5, .int .i64 3, .bool true, .int .i64 1, .int .i64 0, .int .i64 7, .bool false, .int .i64 2, .int .i64 0, .int .i64 127, .bool true, .int .i64 3, .int .i64 0, .int .i64 0, .bool true, .int .i64 4, .int .i64 0, .int .i64 0, .bool false, .int .i64 5, .int .i64 0, .int .i64 0, .bool true, .int .i64 6, .int .i64 0, .int .i64 0, .bool false, .int .i64 7, .int .i64 0, .int .i64 0, .bool false, .int .i64 0, .int .i64 300, .int .i64 2, .bool false, .int .i64 1, .int .i64 0, .int .i64 130, .bool true] 23)) (.cells #[.int .i64 128, .int .i64 128, .int .i64 128, .int .i64 128, .int .i64 128, .int .i64 128, .int .i64 32768, .int .i64 32768, .int .i64 32768, .int .i64 32768] 3)
  rw [show (W.alloc (.cells #[.int .i64 0, .int .i64 5, .int .i64 3, .bool true, .int .i64 1, .int .i64 0, .int .i64 7, .bool false, .int .i64 2, .int .i64 0, .int .i64 127, .bool true, .int .i64 3, .int .i64 0, .int .i64 0, .bool true, .int .i64 4, .int .i64 0, .int .i64 0, .bool false, .int .i64 5, .int .i64 0, .int .i64 0, .bool true, .int .i64 6, .int .i64 0, .int .i64 0, .bool false, .int .i64 7, .int .i64 0, .int .i64 0, .bool false, .int .i64 0, .int .i64 300, .int .i64 2, .bool false, .int .i64 1, .int .i64 0, .int .i64 130, .bool true] 23)).heap.size = W.heap.size + 1 by simp] at h
  exact h
theorem tabs_2 (W : World) : (tabs W).heap[W.heap.size + 1 + 1]? = some (.cells rowS 9 (0, 0)) := by
  unfold tabs
  have h := heap_alloc_new ((W.alloc (.cells #[.int .i64 0, .int .i64 5, .int .i64 3, .bool true, .int .i64 1, .int .i64 0, .int .i64 7, .bool false, .int .i64 2, .int .i64 0, .int .i64 127, .bool true, .int .i64 3, .int .i64 0, .int .i64 0, .bool true, .int .i64 4, .int .i64 0, .int .i64 0, .bool false, .int .i64 5, .int .i64 0, .int .i64 0, .bool true, .int .i64 6, .int .i64 0, .int .i64 0, .bool false, .int .i64 7, .int .i64 0, .int .i64 0, .bool false, .int .i64 0, .int .i64 300, .int .i64 2, .bool false, .int .i64 1, .int .i64 0, .int .i64 130, .bool true] 23)).alloc (.cells #[.int .i64 128, .int .i64 128, .int .i64 128, .int .i64 128, .int .i64 128, .int .i64 128, .int .i64 32768, .int .i64 32768, .int .i64 32768, .int .i64 32768] 3)) (.cells #[.string ⟨#[10, 7]⟩, .string ⟨#[1, 14]⟩, .string ⟨#[9, 255]⟩, .string ⟨#[127]⟩, .string ⟨#[99]⟩, .string ⟨#[83]⟩, .string ⟨#[15]⟩, .string ⟨#[135]⟩, .string ⟨#[88, 2, 4, 0]⟩, .string ⟨#[1, 0, 5, 1]⟩] 9)
  rw [show ((W.alloc (.cells #[.int .i64 0, .int .i64 5, .int .i64 3, .bool true, .int .i64 1, .int .i64 0, .int .i64 7, .bool false, .int .i64 2, .int .i64 0, .int .i64 127, .bool true, .int .i64 3, .int .i64 0, .int .i64 0, .bool true, .int .i64 4, .int .i64 0, .int .i64 0, .bool false, .int .i64 5, .int .i64 0, .int .i64 0, .bool true, .int .i64 6, .int .i64 0, .int .i64 0, .bool false, .int .i64 7, .int .i64 0, .int .i64 0, .bool false, .int .i64 0, .int .i64 300, .int .i64 2, .bool false, .int .i64 1, .int .i64 0, .int .i64 130, .bool true] 23)).alloc (.cells #[.int .i64 128, .int .i64 128, .int .i64 128, .int .i64 128, .int .i64 128, .int .i64 128, .int .i64 32768, .int .i64 32768, .int .i64 32768, .int .i64 32768] 3)).heap.size = W.heap.size + 1 + 1 by simp] at h
  exact h
theorem tab_cell (W v : World) (hv : Below (tabs W).heap.size (tabs W) v) :
    (∀ j, v.cell? ⟨W.heap.size, j, none⟩ = rowC[j]?) ∧ (∀ j, v.cell? ⟨W.heap.size + 1, j, none⟩ = rowM[j]?) ∧ ∀ j, v.cell? ⟨W.heap.size + 1 + 1, j, none⟩ = rowS[j]? := by
  have hs := tabs_size W
  refine ⟨fun j => ?_, fun j => ?_, fun j => ?_⟩
  · rw [hv.cell (by rw [hs]; show W.heap.size < _; omega), cell_of_row _ _ _ _ _ (0, 0) (tabs_0 W)]
  · rw [hv.cell (by rw [hs]; show W.heap.size + 1 < _; omega), cell_of_row _ _ _ _ _ (0, 0) (tabs_1 W)]
  · rw [hv.cell (by rw [hs]; show W.heap.size + 1 + 1 < _; omega), cell_of_row _ _ _ _ _ (0, 0) (tabs_2 W)]
end Go.Proofs.Ythakcaofihacdaa

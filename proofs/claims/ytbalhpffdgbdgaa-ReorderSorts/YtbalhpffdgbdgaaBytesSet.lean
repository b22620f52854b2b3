/- A row of the call's own, made in zeros or grown by append, and what a store into it leaves. No condition. -/
import Derived.Test.YtbalhpffdgbdgaaBytesNew
import Derived.Laws.MakeOwn
namespace Go.Proofs.Ytbalhpffdgbdgaa
open Go.RowKit
set_option linter.unusedVariables false

/-- the place j of an own row: what is there, that it may be written, and what a store leaves -/
theorem Own.place {w : World} {base : Nat} {A : Option Addr} {c : Nat} {X : List UInt8} (h : Own w base A c X) {j : Nat} (hj : j < X.length) :
    ∃ g, A = some ⟨g, 0, none⟩ ∧ base ≤ g ∧ w.cell? ⟨g, j, none⟩ = some (bv (X.getD j 0)) ∧ w.frozen? ⟨g, j, none⟩ = false ∧ ∀ y, Own (w.setCell ⟨g, j, none⟩ (bv y)) base A c (X.set j y) := by
  rcases h.2 with ⟨_, h0⟩ | ⟨g, cap, cur, hv, hb, _⟩
  · omega
  injection hv with hA _ hc
  subst hA hc
  refine ⟨g, rfl, hb, ?_, World.ownsRow.frozenAt h j, fun y => ?_⟩
  · rw [World.ownsRow.cellAt h j (by omega)]
    simp [List.getElem?_eq_getElem hj]
  · have := (World.ownsRow.stored h j (bv y)).1
    unfold Own
    rw [List.length_set, List.map_set]
    exact this
/-- make([]byte, n): one new row of zeros -/
theorem run_made (n : Nat) (hn : n ≤ 1048576) (W : World) : (Instr.makeSlice 28 (.int .i64 (n : Int)) (.int .i64 (n : Int))).run Try.prog W = .ok (.slice (some ⟨W.heap.size, 0, none⟩) n n) (laid W (List.replicate n 0)) := by
  obtain ⟨i0, hi, hz0, hz1, hz2⟩ := info_parts info8
  have h := run_make (P := Try.prog) W 28 5 i0 _ Try.underlying28 hi hz0 .i64 .i64 n n (by omega) (by omega) (by rw [hz2]; omega) (by omega)
  rw [hz1] at h
  have e : (madeCells #[.int .u8 0] n) = ((List.replicate n (0 : UInt8)).map bv).toArray := by
    apply Array.ext'
    rw [toList_madeCells_one, List.map_replicate]
    rfl
  unfold laid
  rw [← e]
  simpa [Value.cells] using h
theorem made_own (n : Nat) (hn : n ≤ 1048576) (W : World) : Own (laid W (List.replicate n 0)) W.heap.size (some ⟨W.heap.size, 0, none⟩) n (List.replicate n 0) := by
  have := laid_own W (List.replicate n 0) (by simpa using hn)
  rwa [List.length_replicate] at this
end Go.Proofs.Ytbalhpffdgbdgaa

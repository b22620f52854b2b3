/- One order of the program and a row of bools of the law's own side by side. No condition. -/
import Derived.Test.YtbalhpffdgbdgaaOrdAlive
import Derived.Test.YtbalhpffdgbdgaaOrdSort
namespace Go.Proofs.Ytbalhpffdgbdgaa
open Go.RowKit
set_option linter.unusedVariables false

/-- a row of bools -/
def brow (L : Nat) (C : Nat → Bool) : List Value := (List.range L).map fun j => Value.bool (C j)
theorem brow_len (L : Nat) (C : Nat → Bool) : (brow L C).length = L := by simp [brow]
theorem brow_at {L j : Nat} (C : Nat → Bool) (h : j < L) : (brow L C)[j]? = some (.bool (C j)) := by simp [brow, h]
theorem brow_set {L k : Nat} (C : Nat → Bool) (h : k < L) : (brow L C).set k (.bool true) = brow L (upd C k) := by
  refine List.ext_getElem? fun i => ?_
  rw [List.getElem?_set]
  by_cases hi : i < L
  · rw [brow_at _ hi, brow_at _ hi, brow_len]
    unfold upd
    by_cases e : k = i
    · rw [if_pos e, if_pos h, if_pos e.symm]
    · rw [if_neg e, if_neg (fun e' => e e'.symm)]
  · rw [if_neg (by omega), List.getElem?_eq_none (by rw [brow_len]; omega), List.getElem?_eq_none (by rw [brow_len]; omega)]
theorem brow_false (L : Nat) : brow L (fun _ => false) = List.replicate L (Value.bool false) := by
  refine List.ext_getElem? fun i => ?_
  by_cases hi : i < L
  · rw [brow_at _ hi, List.getElem?_replicate, if_pos hi]
  · rw [List.getElem?_eq_none (by rw [brow_len]; omega), List.getElem?_eq_none (by rw [List.length_replicate]; omega)]
theorem run_madeB (n : Nat) (hn : n ≤ 1048576) (W : World) : (Instr.makeSlice 37 (.int .i64 (n : Int)) (.int .i64 (n : Int))).run Try.prog W = .ok (.slice (some ⟨W.heap.size, 0, none⟩) n n) (W.alloc (.cells (brow n (fun _ => false)).toArray 4)) := by
  have hI : (Try.prog.info? 4).map (fun i => (i.zero, i.size, i.bytes)) = some (some (.bool false), 1, 1) := by kernel_rfl
  obtain ⟨i0, hi, hz0, hz1, hz2⟩ := info_parts hI
  have h := run_make (P := Try.prog) W 37 4 i0 _ Try.underlying37 hi hz0 .i64 .i64 n n (by omega) (by omega) (by rw [hz2]; omega) (by omega)
  rw [hz1] at h
  have e : (madeCells #[.bool false] n) = (brow n (fun _ => false)).toArray := by
    apply Array.ext'
    rw [toList_madeCells_one, brow_false]
  rw [← e]
  simpa [Value.cells] using h
/-- The order at p is in the state s, its memory is new; the block g holds the row C. -/
def SO (w v : World) (p g L : Nat) (s : Od) (C : Nat → Bool) : Prop :=
  ∃ F, OdP v F p s ∧ (∀ k, F k → w.heap.size ≤ k) ∧ Below w.heap.size w v ∧ v.heap[g]? = some (.cells (brow L C).toArray 4 (0, 0)) ∧ ¬ F g ∧ w.heap.size ≤ g
section
variable {w v v' : World} {p g L : Nat} {s : Od} {C : Nat → Bool}
theorem SO.made (h : OdOne w v p s) (L : Nat) : SO w (v.alloc (.cells (brow L (fun _ => false)).toArray 4)) p v.heap.size L s (fun _ => false) := by
  have b : Below v.heap.size v (v.alloc (.cells (brow L (fun _ => false)).toArray 4)) := (Below.refl _ _).alloc (Nat.le_refl _) _
  obtain ⟨F, h⟩ := h
  exact ⟨F, h.1.only (G := fun _ => False) (Only.of_below _ b) (fun _ _ h => h), h.2.1, h.2.2.trans (b.mono h.2.2.size), heap_alloc_new v _, fun hF => by have := h.1.lt _ hF; omega, h.2.2.size⟩
theorem SO.one (h : SO w v p g L s C) : OdOne w v p s := by obtain ⟨F, h1, h2, h3, _⟩ := h; exact ⟨F, h1, h2, h3⟩
theorem SO.bel (h : SO w v p g L s C) : Below w.heap.size w v := h.one.bel
theorem SO.beside (h : SO w v p g L s C) (hb : Below v.heap.size v v') : SO w v' p g L s C := by
  obtain ⟨F, h1, h2, h3, h4, h5, h6⟩ := h
  exact ⟨F, h1.only (G := fun _ => False) (Only.of_below _ hb) (fun _ _ h => h), h2, h3.trans (hb.mono h3.size), (hb.block g (lt_of_block h4)).trans h4, h5, h6⟩
theorem SO.cell (h : SO w v p g L s C) {j : Nat} (hj : j < L) : v.cell? ⟨g, j, none⟩ = some (.bool (C j)) := by
  obtain ⟨F, h1, h2, h3, h4, h5, h6⟩ := h
  rw [cell_of_row v g _ _ _ (0, 0) h4, List.getElem?_toArray, brow_at _ hj]
theorem SO.open_ (h : SO w v p g L s C) (j : Nat) : v.frozen? ⟨g, j, none⟩ = false := by
  obtain ⟨F, h1, h2, h3, h4, h5, h6⟩ := h
  exact frozen_of_row v g j _ _ h4
theorem SO.set (h : SO w v p g L s C) {k : Nat} (hk : k < L) : SO w (v.setCell ⟨g, k, none⟩ (.bool true)) p g L s (upd C k) := by
  obtain ⟨F, h1, h2, h3, h4, h5, h6⟩ := h
  have on := only_set v ⟨g, k, none⟩ (.bool true)
  refine ⟨F, h1.only on (fun q hq e => h5 (by rw [← show q = g from e]; exact hq)), h2, h3.trans (on.below (fun q e => by rw [show q = g from e]; exact h6) h3.size), ?_, h5, h6⟩
  have := heap_setCell_same v g k _ _ (.bool true) h4
  rw [this]
  have e : (brow L C).toArray.setIfInBounds k (.bool true) = (brow L (upd C k)).toArray := by
    apply Array.ext'
    rw [Array.toList_setIfInBounds, List.toList_toArray, List.toList_toArray, brow_set C hk]
  rw [e]
theorem SO.put (h : SO w v p g L s C) (hall : s.all ≤ 999999) (n : Int) (hn : I64 n) (X : Option Addr) (d : Nat) (x : List UInt8) (hr : Rd v X x) (hx : x.length ≤ 1048576) :
    Calls Try.prog 10 #[.pointer (some ⟨p, 0, none⟩), .int .i64 n, .slice X x.length d] v fun e v' => e = .returned (.int .i64 (s.putN n x)) ∧ SO w v' p g L (s.put n x) C := by
  obtain ⟨F, h1, h2, h3, h4, h5, h6⟩ := h
  refine (odPut_calls h1 hall n hn X d x hr hx).mono ?_
  rintro e v' ⟨rfl, t1, t2⟩
  have hg := lt_of_block h4
  exact ⟨rfl, more F v v', t1, fun k hk => hk.elim (h2 k) (fun h' => Nat.le_trans h3.size h'.1), h3.trans (t2.below h2 h3.size), (t2.block g hg h5).trans h4, fun hF => hF.elim h5 (fun h => by omega), h6⟩
end
end Go.Proofs.Ytbalhpffdgbdgaa

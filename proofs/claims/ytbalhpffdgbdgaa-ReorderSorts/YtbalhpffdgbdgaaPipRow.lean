/- A slice of bytes of the call's own that may begin in the middle of its block: append, a store, a cut, what keeps it. No condition. -/
import Derived.Test.YtbalhpffdgbdgaaBytesKin
import Derived.Test.YtbalhpffdgbdgaaBytesSet
import Derived.Test.YtbalhpffdgbdgaaPipPlain
import Derived.Deep.AppendSrc
import Derived.Deep.MidRow
import Derived.Laws.NewBlocks
namespace Go.Proofs.Ytbalhpffdgbdgaa
open Go.RowKit
set_option linter.unusedVariables false

/-- The slice at A, with room for c, holds the bytes l; its block bears no mark. -/
def Mid (w : World) (A : Option Addr) (c : Nat) (l : List UInt8) : Prop :=
  l.length ≤ c ∧ c ≤ maxLen ∧ ((A = none ∧ c = 0) ∨ ∃ g off cur, A = some ⟨g, off, none⟩ ∧ w.heap[g]? = some (.cells cur 5 (0, 0)) ∧ off + c ≤ cur.size ∧ ∀ j, j < l.length → w.cell? ⟨g, off + j, none⟩ = some (bv (l.getD j 0)))
section
variable {w w' : World} {A : Option Addr} {c : Nat} {l : List UInt8}
theorem Mid.nil (w : World) : Mid w none 0 [] := ⟨Nat.le_refl _, by decide, .inl ⟨rfl, rfl⟩⟩
theorem Mid.cap (h : Mid w A c l) : l.length ≤ c ∧ c ≤ maxLen := ⟨h.1, h.2.1⟩
theorem Mid.rd (h : Mid w A c l) : Rd w A l := fun hl => by
  have hp := List.length_pos_iff.mpr hl
  rcases h.2.2 with ⟨_, h0⟩ | ⟨g, off, cur, hA, _, _, hc⟩
  · have := h.1; omega
  · exact ⟨g, off, hA, hc⟩
theorem Mid.only {F : Nat → Prop} (h : Mid w A c l) (o : Only F w w') (hF : ∀ k, blk A = some k → ¬ F k) : Mid w' A c l := by
  refine ⟨h.1, h.2.1, ?_⟩
  rcases h.2.2 with h0 | ⟨g, off, cur, rfl, hg, hs, hc⟩
  · exact .inl h0
  · have hb := o.block g (lt_of_block hg) (hF g rfl)
    exact .inr ⟨g, off, cur, rfl, hb.trans hg, hs, fun j hj => (World.cell?_of_block (w := w) (a := ⟨g, off + j, none⟩) hb).trans (hc j hj)⟩
theorem Mid.drewN (h : Mid w A c l) (n : Nat) : Mid (w.drewN n) A c l := h
theorem Mid.blk_lt (h : Mid w A c l) : ∀ k, blk A = some k → k < w.heap.size := by
  intro k hk
  rcases h.2.2 with ⟨rfl, _⟩ | ⟨g, off, cur, rfl, hg, _⟩
  · cases hk
  · injection hk with hk
    have hk' : g = k := hk
    subst hk'
    exact lt_of_block hg
theorem Mid.of_own {base : Nat} (h : Own w base A c l) : Mid w A c l := by
  refine ⟨h.cap.1, h.cap.2, ?_⟩
  have hr := h.rd
  rcases h.2 with ⟨hv, h0⟩ | ⟨g, cap, cur, hv, hb, hh, hnc, hcm, hcs, hcur⟩
  · injection hv with h1 _ h2
    exact .inl ⟨h1, h2⟩
  · injection hv with h1 _ h2
    subst h1 h2
    refine .inr ⟨g, 0, cur, rfl, hh, by omega, fun j hj => ?_⟩
    obtain ⟨b, off, e, hc⟩ := hr (by rintro rfl; simp at hj)
    injection e with e
    injection e with e1 e2 e3
    subst e1 e2
    exact hc j hj
/-- a cut from k on, as 's[k:]' spells it -/
theorem Mid.rest (h : Mid w A c l) {k : Nat} (hk : k ≤ l.length) (B : Option Addr) (hB : (c = k ∧ B = A) ∨ ∃ g off, A = some ⟨g, off, none⟩ ∧ B = some ⟨g, off + k, none⟩) : Mid w B (c - k) (l.drop k) := by
  refine ⟨by have := h.1; simp; omega, by have := h.2.1; omega, ?_⟩
  rcases hB with ⟨rfl, rfl⟩ | ⟨g, off, rfl, rfl⟩
  · have hl : l.length = c := by have := h.1; omega
    rcases h.2.2 with ⟨h0, h1⟩ | ⟨g, off, cur, rfl, hg, hs, hc⟩
    · exact .inl ⟨h0, by omega⟩
    · exact .inr ⟨g, off, cur, rfl, hg, by omega, fun j hj => by simp at hj; omega⟩
  · rcases h.2.2 with ⟨h0, _⟩ | ⟨g', off', cur, e, hg, hs, hc⟩
    · cases h0
    · injection e with e
      injection e with e1 e2 e3
      subst e1 e2
      have := h.1
      refine .inr ⟨g, off + k, cur, rfl, hg, by omega, fun j hj => ?_⟩
      simp at hj
      rw [Nat.add_assoc, hc (k + j) (by omega)]
      simp
/-- the place j: what is there, that it may be written, and what a store leaves -/
theorem Mid.place (h : Mid w A c l) {j : Nat} (hj : j < l.length) :
    ∃ g off, A = some ⟨g, off, none⟩ ∧ w.cell? ⟨g, off + j, none⟩ = some (bv (l.getD j 0)) ∧ w.frozen? ⟨g, off + j, none⟩ = false ∧ ∀ y, Mid (w.setCell ⟨g, off + j, none⟩ (bv y)) A c (l.set j y) := by
  rcases h.2.2 with ⟨_, h0⟩ | ⟨g, off, cur, rfl, hg, hs, hc⟩
  · have := h.1; omega
  refine ⟨g, off, rfl, hc j hj, frozen_of_row w g _ _ _ hg, fun y => ⟨by simpa using h.1, h.2.1, .inr ⟨g, off, _, rfl, heap_setCell_same w g (off + j) cur _ _ hg, by simpa using hs, fun i hi => ?_⟩⟩⟩
  simp at hi
  by_cases e : j = i
  · subst e
    rw [World.cell?_setCell_same w ⟨g, off + j, none⟩ _ (hc j hj)]
    simp [hi]
  · rw [World.cell?_setCell_other _ _ _ _ (by intro h; injection h with _ h; omega), hc i hi]
    simp [e]
end

theorem Only.setCells (w : World) (g : Nat) : ∀ (vs : List Value) (o : Nat), Only (fun k => k = g) w (w.setCells g o vs) := by
  intro vs
  induction vs generalizing w with
  | nil => exact fun o => Only.refl _ _
  | cons v r ih => exact fun o => ((Only.refl (fun k => k = g) w).setCell (p := ⟨g, o, none⟩) (.inl rfl) v).trans (ih (w.setCell ⟨g, o, none⟩ v) (o + 1)) (fun _ _ h => h)
theorem setCells_block (g : Nat) (t : TypeId) : ∀ (vs : List Value) (o : Nat) (w : World) (cur : Array Value), w.heap[g]? = some (.cells cur t (0, 0)) → ∃ cur', (w.setCells g o vs).heap[g]? = some (.cells cur' t (0, 0)) ∧ cur'.size = cur.size := by
  intro vs
  induction vs with
  | nil => exact fun o w cur h => ⟨cur, h, rfl⟩
  | cons v r ih =>
    intro o w cur h
    obtain ⟨c', h1, h2⟩ := ih (o + 1) (w.setCell ⟨g, o, none⟩ v) _ (heap_setCell_same w g o cur t v h)
    exact ⟨c', h1, by simpa using h2⟩
theorem some_of_row {w : World} {g : Nat} {cur : Array Value} {t : TypeId} (h : w.heap[g]? = some (.cells cur t (0, 0))) {j : Nat} (hj : j < cur.size) : (w.cell? ⟨g, j, none⟩).isSome = true := by
  rw [cell_of_row w g j cur t (0, 0) h, Array.getElem?_eq_getElem hj]
  rfl
theorem Only.drew (F : Nat → Prop) (w : World) : Only F w w.drew := ⟨rfl, rfl, rfl, Nat.le_refl _, fun _ _ _ => rfl⟩
theorem bvs_get {l : List UInt8} {j : Nat} {u : Value} (h : (l.map bv)[j]? = some u) : j < l.length ∧ u = bv (l.getD j 0) := by
  have hj : j < l.length := by
    rcases Nat.lt_or_ge j l.length with h' | h'
    · exact h'
    · rw [List.getElem?_eq_none (by simpa using h')] at h; cases h
  refine ⟨hj, ?_⟩
  simp [List.getElem?_eq_getElem hj] at h
  simp [hj, h]
theorem bvs_one (l : List UInt8) : ∀ u ∈ l.map bv, u.oneCell' = true := fun u hu => by obtain ⟨x, _, rfl⟩ := List.mem_map.mp hu; rfl

/-- whatever bytes, appended -/
theorem Mid.app {w : World} {A : Option Addr} {c : Nat} {l : List UInt8} (h : Mid w A c l) (B : Option Addr) (d : Nat) (x : List UInt8) (hr : Rd w B x) (hby : l.length + x.length ≤ 140737488355328) :
    ∃ A' c' w', (∀ ty, (Builtin.append_ #[28, 28] ty #[.slice A l.length c, .slice B x.length d]).run Try.prog w = .ok (.slice A' (l ++ x).length c') w') ∧ Mid w' A' c' (l ++ x) ∧
      Only (fun k => blk A = some k) w w' ∧ ∀ k, blk A' = some k → blk A = some k ∨ w.heap.size ≤ k := by
  obtain ⟨i0, hi, hz0, hz1, hz2⟩ := info_parts info8
  rcases Nat.eq_zero_or_pos x.length with hx | hx
  · have hx' : x = [] := List.eq_nil_of_length_eq_zero hx
    subst hx'
    refine ⟨A, c, w, fun ty => ?_, by simpa using h, Only.refl _ _, fun k hk => .inl hk⟩
    have hlc := h.1
    have hl0 : ∀ a : Addr, (loadCells a 0).run Try.prog w = .ok #[] w := fun a => by simpa using run_loadCells_list (P := Try.prog) w a [] (fun j v hj => by simp at hj)
    cases A <;> cases B <;> simp [Builtin.append_, run_underlying Try.underlying28, sizeOf, typeInfo, hi, Builtin.lenOf, Builtin.firstCells, hlc, storeCells, hl0]
    all_goals first | (rcases h.2.2 with ⟨_, h0⟩ | ⟨g, off, cur, e, _⟩ <;> simp_all)
  · obtain ⟨b, o, rfl, hc⟩ := hr (by rintro rfl; simp at hx)
    have hsrc : Src Try.prog i0.size 28 (.slice (some ⟨b, o, none⟩) x.length d) x.length (x.map bv) w := by
      rw [hz1]
      exact Src.ofSlice w Try.underlying28 ⟨b, o, none⟩ x.length d (x.map bv) (by simp) (fun j u hj => by
        obtain ⟨h1, h2⟩ := bvs_get hj
        rw [Addr.add_mid, hc j h1, h2]) (bvs_one x)
    by_cases hroom : l.length + x.length ≤ c
    · rcases h.2.2 with ⟨_, h0⟩ | ⟨g, off, cur, rfl, hg, hs, hcl⟩
      · omega
      obtain ⟨cur', hg', hs'⟩ := setCells_block g 5 (x.map bv) (off + l.length) w cur hg
      have hin : ∀ j, j < (x.map bv).length → (w.cell? ⟨g, off + l.length + j, none⟩).isSome = true := fun j hj => some_of_row hg (by simp at hj; omega)
      have hrun := fun ty => run_append_room_src (P := Try.prog) w 28 28 ty 5 i0 Try.underlying28 hi g off l.length c _ x.length (x.map bv) hsrc hroom (by rw [hz1, Nat.mul_one]; exact hin) (fun j _ => frozen_of_row w g _ _ _ hg)
      rw [hz1, Nat.mul_one] at hrun
      refine ⟨_, c, _, fun ty => by rw [hrun ty]; simp, ⟨by simpa using hroom, h.2.1, .inr ⟨g, off, cur', rfl, hg', by omega, fun j hj => ?_⟩⟩, (Only.setCells w g _ _).mono (fun i _ e => by rw [e]; rfl), fun k hk => .inl hk⟩
      simp at hj
      by_cases hjl : j < l.length
      · rw [World.cell?_setCells_out g _ _ w _ (fun _ _ => .inl (by show off + j < _; omega)), hcl j hjl]
        simp [List.getElem?_append, hjl]
      · have := World.cell?_setCells_in g (x.map bv) (off + l.length) w hin (j - l.length) (by simp; omega)
        rw [show off + l.length + (j - l.length) = off + j by omega] at this
        rw [this]
        simp [List.getElem?_append, hjl, show j - l.length < x.length by omega]
    · have hold : (Builtin.firstCells i0.size l.length (.slice A l.length c)).run Try.prog w.drew = .ok (l.map bv).toArray w.drew := by
        rw [hz1]
        rcases h.2.2 with ⟨rfl, h0⟩ | ⟨g, off, cur, rfl, hg, hs, hcl⟩
        · have : l = [] := List.eq_nil_of_length_eq_zero (by have := h.1; omega)
          subst this
          exact run_firstCells_none w.drew 1 0 0 c
        · exact run_firstCells_some w.drew 1 l.length ⟨g, off, none⟩ l.length c (l.map bv) (by simp) (fun j u hj => by
            obtain ⟨h1, h2⟩ := bvs_get hj
            rw [Addr.add_mid, h2]
            exact hcl j h1)
      have hrun := fun ty => run_append_grow_src (P := Try.prog) w 28 28 ty 5 i0 _ Try.underlying28 hi hz0 A l.length c (l.map bv) hold _ x.length (x.map bv) hsrc (by omega) (by omega) (by rw [hz2]; exact growslice_fits (by omega) (by omega))
      have hG := grownCap_ge w (l.length + x.length) c 5
      refine ⟨_, grownCap w (l.length + x.length) c 5, _, fun ty => by rw [hrun ty, List.length_append], ⟨by simpa using hG, grownCap_le_maxLen w _ _ _ (by unfold maxLen; omega), .inr ⟨w.heap.size, 0, _, rfl, heap_alloc_new w.drew _, ?_, fun j hj => ?_⟩⟩, (Only.drew _ w).alloc _, fun k hk => .inr ?_⟩
      · simp [size_zeroCells, Value.cells]
        omega
      · rw [Nat.zero_add, World.cell?_alloc_at (w := w.drew) _ _ w.heap.size j rfl]
        simp at hj
        rw [Array.getElem?_append_left (by simp; omega)]
        by_cases hjl : j < l.length
        · simp [List.getElem?_append, hjl]
        · simp [List.getElem?_append, hjl, show j - l.length < x.length by omega]
      · injection hk with hk
        have hk' : w.heap.size = k := hk
        omega
end Go.Proofs.Ytbalhpffdgbdgaa

/- A row of one-cell elements of the call's own that may begin in the middle of its block: append, a store, a cut, what keeps it. No condition. -/
import Derived.Test.YtbalhpffdgbdgaaPipRow
namespace Go.Proofs.Ytbalhpffdgbdgaa
open Go.RowKit
set_option linter.unusedVariables false

/-- The slice at A, with room for c, holds the values vs (of type e); its block bears no mark. -/
def MidV (e : TypeId) (w : World) (A : Option Addr) (c : Nat) (vs : List Value) : Prop :=
  vs.length ≤ c ∧ c ≤ maxLen ∧ ((A = none ∧ c = 0) ∨ ∃ g off cur, A = some ⟨g, off, none⟩ ∧ w.heap[g]? = some (.cells cur e (0, 0)) ∧ off + c ≤ cur.size ∧ ∀ j u, vs[j]? = some u → w.cell? ⟨g, off + j, none⟩ = some u)
/-- sl is the type of the slices of e, an element is one cell, zero z -/
structure ET (sl e : TypeId) (z : Value) (bytes : Nat) : Prop where
  und : Try.prog.underlying sl = some (.slice e)
  info : (Try.prog.info? e).map (fun i => (i.zero, i.size, i.bytes)) = some (some z, 1, bytes)
  one : z.cells.size = 1
  small : bytes ≤ 24
section
variable {e : TypeId} {w w' : World} {A : Option Addr} {c : Nat} {vs : List Value}
theorem MidV.nil (e : TypeId) (w : World) : MidV e w none 0 [] := ⟨Nat.le_refl _, by decide, .inl ⟨rfl, rfl⟩⟩
theorem MidV.only {F : Nat → Prop} (h : MidV e w A c vs) (o : Only F w w') (hF : ∀ k, blk A = some k → ¬ F k) : MidV e w' A c vs := by
  refine ⟨h.1, h.2.1, ?_⟩
  rcases h.2.2 with h0 | ⟨g, off, cur, rfl, hg, hs, hc⟩
  · exact .inl h0
  · have hb := o.block g (lt_of_block hg) (hF g rfl)
    exact .inr ⟨g, off, cur, rfl, hb.trans hg, hs, fun j u hu => (World.cell?_of_block (w := w) (a := ⟨g, off + j, none⟩) hb).trans (hc j u hu)⟩
theorem MidV.drewN (h : MidV e w A c vs) (n : Nat) : MidV e (w.drewN n) A c vs := h
theorem MidV.type (h : MidV e w A c vs) : ∀ k, blk A = some k → ∃ cur, w.heap[k]? = some (.cells cur e (0, 0)) := by
  intro k hk
  rcases h.2.2 with ⟨rfl, _⟩ | ⟨g, off, cur, rfl, hg, _⟩
  · cases hk
  · injection hk with hk
    have hk' : g = k := hk
    subst hk'
    exact ⟨cur, hg⟩
theorem MidV.blk_lt (h : MidV e w A c vs) : ∀ k, blk A = some k → k < w.heap.size := fun k hk => by
  obtain ⟨cur, hg⟩ := h.type k hk
  exact lt_of_block hg
theorem Mid.type {l : List UInt8} (h : Mid w A c l) : ∀ k, blk A = some k → ∃ cur, w.heap[k]? = some (.cells cur 5 (0, 0)) := by
  intro k hk
  rcases h.2.2 with ⟨rfl, _⟩ | ⟨g, off, cur, rfl, hg, _⟩
  · cases hk
  · injection hk with hk
    have hk' : g = k := hk
    subst hk'
    exact ⟨cur, hg⟩
/-- blocks of two types are two -/
theorem types_apart {t t' : TypeId} {k : Nat} {cur cur' : Array Value} (ht : t ≠ t') (h : w.heap[k]? = some (.cells cur t (0, 0))) (h' : w.heap[k]? = some (.cells cur' t' (0, 0))) : False := by
  rw [h] at h'
  injection h' with h'
  injection h' with _ h'
  exact ht h'
/-- the front -/
theorem MidV.front (h : MidV e w A c vs) (k : Nat) : MidV e w A c (vs.take k) := by
  refine ⟨by have := h.1; simp; omega, h.2.1, ?_⟩
  rcases h.2.2 with h0 | ⟨g, off, cur, rfl, hg, hs, hc⟩
  · exact .inl h0
  · refine .inr ⟨g, off, cur, rfl, hg, hs, fun j u hu => hc j u ?_⟩
    rw [List.getElem?_take] at hu
    split at hu
    · exact hu
    · cases hu
theorem Mid.front {l : List UInt8} (h : Mid w A c l) (k : Nat) : Mid w A c (l.take k) := by
  refine ⟨by have := h.1; simp; omega, h.2.1, ?_⟩
  rcases h.2.2 with h0 | ⟨g, off, cur, rfl, hg, hs, hc⟩
  · exact .inl h0
  · refine .inr ⟨g, off, cur, rfl, hg, hs, fun j hj => ?_⟩
    simp at hj
    rw [hc j (by omega)]
    simp [show j < k by omega]
/-- a cut from 1 on, as 's[1:]' spells it -/
theorem MidV.rest {v : Value} (h : MidV e w A c (v :: vs)) : ∃ g off, A = some ⟨g, off, none⟩ ∧ w.cell? ⟨g, off, none⟩ = some v ∧ 1 ≤ c ∧ (c = 1 → MidV e w A 0 vs) ∧ MidV e w (some ⟨g, off + 1, none⟩) (c - 1) vs := by
  have h1 := h.1
  have h2 := h.2.1
  simp at h1
  rcases h.2.2 with ⟨_, h0⟩ | ⟨g, off, cur, rfl, hg, hs, hc⟩
  · omega
  refine ⟨g, off, rfl, hc 0 v rfl, by omega, fun e => ?_, by omega, by omega, .inr ⟨g, off + 1, cur, rfl, hg, by omega, fun j u hu => ?_⟩⟩
  · have : vs = [] := List.eq_nil_of_length_eq_zero (by omega)
    subst this
    exact ⟨Nat.le_refl _, by decide, .inr ⟨g, off, cur, rfl, hg, by omega, fun j u hu => by simp at hu⟩⟩
  · have := hc (j + 1) u (by simpa using hu)
    rwa [show off + 1 + j = off + (j + 1) by omega]
/-- the place 0: that it may be written, and what a store leaves -/
theorem MidV.first {v : Value} (h : MidV e w A c (v :: vs)) : ∃ g off, A = some ⟨g, off, none⟩ ∧ w.cell? ⟨g, off, none⟩ = some v ∧ w.frozen? ⟨g, off, none⟩ = false ∧ ∀ u, MidV e (w.setCell ⟨g, off, none⟩ u) A c (u :: vs) := by
  have h1 := h.1
  simp at h1
  rcases h.2.2 with ⟨_, h0⟩ | ⟨g, off, cur, rfl, hg, hs, hc⟩
  · omega
  refine ⟨g, off, rfl, hc 0 v rfl, frozen_of_row w g _ _ _ hg, fun u => ⟨by simpa using h1, h.2.1, .inr ⟨g, off, _, rfl, heap_setCell_same w g off cur _ _ hg, by simpa using hs, fun j x hx => ?_⟩⟩⟩
  rcases j with _ | j
  · rw [Nat.add_zero, World.cell?_setCell_same w ⟨g, off, none⟩ _ (hc 0 v rfl)]
    simpa using hx
  · rw [World.cell?_setCell_other _ _ _ _ (by intro h; injection h with _ h; omega), hc (j + 1) x (by simpa using hx)]
/-- what is at the place j -/
theorem MidV.at_ (h : MidV e w A c vs) {j : Nat} {v : Value} (hj : vs[j]? = some v) : ∃ g off, A = some ⟨g, off, none⟩ ∧ w.cell? ⟨g, off + j, none⟩ = some v := by
  have hl : j < vs.length := (List.getElem?_eq_some_iff.1 hj).1
  rcases h.2.2 with ⟨_, h0⟩ | ⟨g, off, cur, rfl, hg, hs, hc⟩
  · have := h.1; omega
  · exact ⟨g, off, rfl, hc j v hj⟩
/-- whatever elements, appended -/
theorem MidV.app {sl : TypeId} {z : Value} {bytes : Nat} (T : ET sl e z bytes) (h : MidV e w A c vs) (b o d : Nat) (xs : List Value) (hx : 0 < xs.length) (hcx : ∀ j u, xs[j]? = some u → w.cell? ⟨b, o + j, none⟩ = some u) (h1 : ∀ u ∈ xs, u.oneCell' = true) (hby : vs.length + xs.length ≤ 2000000) :
    ∃ A' c' w', (∀ ty, (Builtin.append_ #[sl, sl] ty #[.slice A vs.length c, .slice (some ⟨b, o, none⟩) xs.length d]).run Try.prog w = .ok (.slice A' (vs.length + xs.length) c') w') ∧ MidV e w' A' c' (vs ++ xs) ∧
      Only (fun k => blk A = some k) w w' ∧ ∀ k, blk A' = some k → blk A = some k ∨ w.heap.size ≤ k := by
  obtain ⟨i0, hi, hz0, hz1, hz2⟩ := info_parts T.info
  have hsm := T.small
  have hsrc : Src Try.prog i0.size sl (.slice (some ⟨b, o, none⟩) xs.length d) xs.length xs w := by
    rw [hz1]
    exact Src.ofSlice w T.und ⟨b, o, none⟩ xs.length d xs (by simp) (fun j u hj => by rw [Addr.add_mid]; exact hcx j u hj) h1
  by_cases hroom : vs.length + xs.length ≤ c
  · rcases h.2.2 with ⟨_, h0⟩ | ⟨g, off, cur, rfl, hg, hs, hcl⟩
    · omega
    obtain ⟨cur', hg', hs'⟩ := setCells_block g e xs (off + vs.length) w cur hg
    have hin : ∀ j, j < xs.length → (w.cell? ⟨g, off + vs.length + j, none⟩).isSome = true := fun j hj => some_of_row hg (by omega)
    have hrun := fun ty => run_append_room_src (P := Try.prog) w sl sl ty e i0 T.und hi g off vs.length c _ xs.length xs hsrc hroom (by rw [hz1, Nat.mul_one]; exact hin) (fun j _ => frozen_of_row w g _ _ _ hg)
    rw [hz1, Nat.mul_one] at hrun
    refine ⟨_, c, _, hrun, ⟨by simpa using hroom, h.2.1, .inr ⟨g, off, cur', rfl, hg', by omega, fun j u hu => ?_⟩⟩, (Only.setCells w g _ _).mono (fun i _ e => by rw [e]; rfl), fun k hk => .inl hk⟩
    by_cases hjl : j < vs.length
    · rw [List.getElem?_append_left hjl] at hu
      rw [World.cell?_setCells_out g _ _ w _ (fun _ _ => .inl (by show off + j < _; omega)), hcl j u hu]
    · rw [List.getElem?_append_right (by omega)] at hu
      have hj2 : j - vs.length < xs.length := (List.getElem?_eq_some_iff.1 hu).1
      have := World.cell?_setCells_in g xs (off + vs.length) w hin (j - vs.length) hj2
      rw [show off + vs.length + (j - vs.length) = off + j by omega] at this
      rw [this, ← hu]
      simp [hj2]
  · have hold : (Builtin.firstCells i0.size vs.length (.slice A vs.length c)).run Try.prog w.drew = .ok vs.toArray w.drew := by
      rw [hz1]
      rcases h.2.2 with ⟨rfl, h0⟩ | ⟨g, off, cur, rfl, hg, hs, hcl⟩
      · have : vs = [] := List.eq_nil_of_length_eq_zero (by have := h.1; omega)
        subst this
        exact run_firstCells_none w.drew 1 0 0 c
      · exact run_firstCells_some w.drew 1 vs.length ⟨g, off, none⟩ vs.length c vs (by simp) (fun j u hj => by
          rw [Addr.add_mid]
          exact hcl j u hj)
    have hmul : (vs.length + xs.length) * bytes ≤ (vs.length + xs.length) * 24 := Nat.mul_le_mul_left _ hsm
    have hrun := fun ty => run_append_grow_src (P := Try.prog) w sl sl ty e i0 _ T.und hi hz0 A vs.length c vs hold _ xs.length xs hsrc (by omega) (by omega) (by rw [hz2]; exact growslice_fits (by omega) (by omega))
    have hG := grownCap_ge w (vs.length + xs.length) c e
    refine ⟨_, grownCap w (vs.length + xs.length) c e, _, hrun, ⟨by simpa using hG, grownCap_le_maxLen w _ _ _ (by unfold maxLen; omega), .inr ⟨w.heap.size, 0, _, rfl, heap_alloc_new w.drew _, ?_, fun j u hu => ?_⟩⟩, (Only.drew _ w).alloc _, fun k hk => .inr ?_⟩
    · simp [size_zeroCells, T.one]
      omega
    · rw [Nat.zero_add, World.cell?_alloc_at (w := w.drew) _ _ w.heap.size j rfl]
      have hj : j < (vs ++ xs).length := (List.getElem?_eq_some_iff.1 hu).1
      rw [Array.getElem?_append_left (by simpa using hj)]
      simpa using hu
    · injection hk with hk
      have hk' : w.heap.size = k := hk
      omega
/-- one new element, appended -/
theorem MidV.app1 {sl : TypeId} {z : Value} {bytes : Nat} (T : ET sl e z bytes) (h : MidV e w A c vs) (v : Value) (hv : v.oneCell' = true) (hby : vs.length ≤ 1048576) :
    ∃ A' c' w', (∀ ty, (Builtin.append_ #[sl, sl] ty #[.slice A vs.length c, .slice (some ⟨w.heap.size, 0, none⟩) 1 1]).run Try.prog (w.alloc (.cells #[v] e)) = .ok (.slice A' (vs.length + 1) c') w') ∧ MidV e w' A' c' (vs ++ [v]) ∧
      Only (fun k => blk A = some k) w w' ∧ ∀ k, blk A' = some k → blk A = some k ∨ w.heap.size ≤ k := by
  have oa : Only (fun k => blk A = some k) w (w.alloc (.cells #[v] e)) := (Only.refl _ w).alloc _
  obtain ⟨A', c', w', r, m, o, kin⟩ := (h.only (F := fun _ => False) ((Only.refl _ w).alloc (.cells #[v] e)) (fun _ _ h => h)).app T w.heap.size 0 1 [v] (Nat.zero_lt_one) (fun j u hu => by
    rw [Nat.zero_add, cell_of_row _ _ j _ _ (0, 0) (heap_alloc_new w _)]
    simpa using hu) (fun u hu => by simp at hu; subst hu; exact hv) (by simp; omega)
  exact ⟨A', c', w', r, m, oa.trans o (fun _ _ h => h), fun k hk => (kin k hk).elim .inl (fun h => .inr (by simp at h; omega))⟩
end
end Go.Proofs.Ytbalhpffdgbdgaa

/- A row of elements of k cells of the call's own that may begin in the middle of its block: append, a cut, what keeps it. No condition. -/
import Derived.Test.YtdidmpimlodffaaG2
namespace Go.Proofs.Ytdidmpimlodffaa
open Go.RowKit
set_option linter.unusedVariables false

/-- The slice at A, of n elements of k cells each (of type e), with room for c, holds the cells cs; its block bears no mark. -/
def MidK (e : TypeId) (k : Nat) (w : World) (A : Option Addr) (c n : Nat) (cs : List Value) : Prop :=
  cs.length = n * k ∧ n ≤ c ∧ c ≤ maxLen ∧ ((A = none ∧ c = 0) ∨ ∃ g off cur, A = some ⟨g, off, none⟩ ∧ w.heap[g]? = some (.cells cur e (0, 0)) ∧ off + c * k ≤ cur.size ∧ ∀ j u, cs[j]? = some u → w.cell? ⟨g, off + j, none⟩ = some u)
/-- sl is the type of the slices of e, an element is k cells, zero z -/
structure ETK (sl e : TypeId) (k : Nat) (z : Value) (bytes : Nat) : Prop where
  und : Try.prog.underlying sl = some (.slice e)
  info : (Try.prog.info? e).map (fun i => (i.zero, i.size, i.bytes)) = some (some z, k, bytes)
  one : z.cells.size = k
  small : bytes ≤ 64
section
variable {e : TypeId} {k : Nat} {w w' : World} {A : Option Addr} {c n : Nat} {cs : List Value}
theorem MidK.nil (e : TypeId) (k : Nat) (w : World) : MidK e k w none 0 0 [] := ⟨by simp, Nat.le_refl _, by decide, .inl ⟨rfl, rfl⟩⟩
theorem MidK.only {F : Nat → Prop} (h : MidK e k w A c n cs) (o : Only F w w') (hF : ∀ q, blk A = some q → ¬ F q) : MidK e k w' A c n cs := by
  refine ⟨h.1, h.2.1, h.2.2.1, ?_⟩
  rcases h.2.2.2 with h0 | ⟨g, off, cur, rfl, hg, hs, hc⟩
  · exact .inl h0
  · have hb := o.block g (lt_of_block hg) (hF g rfl)
    exact .inr ⟨g, off, cur, rfl, hb.trans hg, hs, fun j u hu => (World.cell?_of_block (w := w) (a := ⟨g, off + j, none⟩) hb).trans (hc j u hu)⟩
theorem MidK.drewN (h : MidK e k w A c n cs) (q : Nat) : MidK e k (w.drewN q) A c n cs := h
theorem MidK.type (h : MidK e k w A c n cs) : ∀ q, blk A = some q → ∃ cur, w.heap[q]? = some (.cells cur e (0, 0)) := by
  intro q hq
  rcases h.2.2.2 with ⟨rfl, _⟩ | ⟨g, off, cur, rfl, hg, _⟩
  · cases hq
  · injection hq with hq
    have hq' : g = q := hq
    subst hq'
    exact ⟨cur, hg⟩
theorem MidK.blk_lt (h : MidK e k w A c n cs) : ∀ q, blk A = some q → q < w.heap.size := fun q hq => by
  obtain ⟨cur, hg⟩ := h.type q hq
  exact lt_of_block hg
/-- what is at the cell j -/
theorem MidK.at_ (h : MidK e k w A c n cs) {j : Nat} {v : Value} (hj : cs[j]? = some v) : ∃ g off, A = some ⟨g, off, none⟩ ∧ w.cell? ⟨g, off + j, none⟩ = some v := by
  have hl : j < cs.length := (List.getElem?_eq_some_iff.1 hj).1
  rcases h.2.2.2 with ⟨_, h0⟩ | ⟨g, off, cur, rfl, hg, hs, hc⟩
  · have := h.1
    rw [show n = 0 by have := h.2.1; omega] at this
    omega
  · exact ⟨g, off, rfl, hc j v hj⟩
/-- as a source of an append: its elements from i on -/
theorem MidK.src {sl : TypeId} {z : Value} {bytes : Nat} (T : ETK sl e k z bytes) {g off i d : Nat} (h : MidK e k w (some ⟨g, off, none⟩) c n cs) (hi : i ≤ n) (h1 : ∀ u ∈ cs, u.oneCell' = true) : Src Try.prog k sl (.slice (some ⟨g, off + i * k, none⟩) (n - i) d) (n - i) (cs.drop (i * k)) w := by
  rcases h.2.2.2 with ⟨h0, _⟩ | ⟨g', off', cur, e', hg, hs, hc⟩
  · cases h0
  injection e' with e'
  injection e' with e1 e2
  subst e1 e2
  refine Src.ofSlice w T.und ⟨g, off + i * k, none⟩ (n - i) d _ ?_ (fun j u hj => ?_) (fun u hu => h1 u (List.mem_of_mem_drop hu))
  · rw [List.length_drop, h.1, Nat.sub_mul]
  · rw [List.getElem?_drop] at hj
    rw [Addr.add_mid, Nat.add_assoc]
    exact hc _ u hj
/-- whatever elements, appended -/
theorem MidK.app {sl : TypeId} {z : Value} {bytes : Nat} (T : ETK sl e k z bytes) (hk : 0 < k) (h : MidK e k w A c n cs) (x : Value) (m : Nat) (xs : List Value) (hm : 0 < m) (hsrc : Src Try.prog k sl x m xs w) (hby : n + m ≤ 1000000) :
    ∃ A' c' w', (∀ ty, (Builtin.append_ #[sl, sl] ty #[.slice A n c, x]).run Try.prog w = .ok (.slice A' (n + m) c') w') ∧ MidK e k w' A' c' (n + m) (cs ++ xs) ∧
      Only (fun q => blk A = some q) w w' ∧ ∀ q, blk A' = some q → blk A = some q ∨ w.heap.size ≤ q := by
  obtain ⟨i0, hi, hz0, hz1, hz2⟩ := info_parts T.info
  have hsm := T.small
  have hxl := hsrc.newsLen
  have hcl0 := h.1
  rw [← hz1] at hsrc
  have hlen : (cs ++ xs).length = (n + m) * k := by rw [List.length_append, hcl0, hxl, Nat.add_mul]
  by_cases hroom : n + m ≤ c
  · rcases h.2.2.2 with ⟨_, h0⟩ | ⟨g, off, cur, rfl, hg, hs, hcl⟩
    · omega
    have hck : n * k + m * k ≤ c * k := by rw [← Nat.add_mul]; exact Nat.mul_le_mul_right _ hroom
    obtain ⟨cur', hg', hs'⟩ := setCells_block g e xs (off + n * k) w cur hg
    have hin : ∀ j, j < xs.length → (w.cell? ⟨g, off + n * k + j, none⟩).isSome = true := fun j hj => some_of_row hg (by omega)
    have hrun := fun ty => run_append_room_src (P := Try.prog) w sl sl ty e i0 T.und hi g off n c _ m xs hsrc hroom (by rw [hz1]; exact hin) (fun j _ => frozen_of_row w g _ _ _ hg)
    rw [hz1] at hrun
    refine ⟨_, c, _, hrun, ⟨hlen, hroom, h.2.2.1, .inr ⟨g, off, cur', rfl, hg', by omega, fun j u hu => ?_⟩⟩, (Only.setCells w g _ _).mono (fun i _ e => by rw [e]; rfl), fun q hq => .inl hq⟩
    by_cases hjl : j < cs.length
    · rw [List.getElem?_append_left hjl] at hu
      rw [World.cell?_setCells_out g _ _ w _ (fun _ _ => .inl (by show off + j < _; omega)), hcl j u hu]
    · rw [List.getElem?_append_right (by omega)] at hu
      have hj2 : j - cs.length < xs.length := (List.getElem?_eq_some_iff.1 hu).1
      have := World.cell?_setCells_in g xs (off + n * k) w hin (j - cs.length) hj2
      rw [show off + n * k + (j - cs.length) = off + j by omega] at this
      rw [this, ← hu]
      simp [hj2]
  · have hold : (Builtin.firstCells i0.size n (.slice A n c)).run Try.prog w.drew = .ok cs.toArray w.drew := by
      rw [hz1]
      rcases h.2.2.2 with ⟨rfl, h0⟩ | ⟨g, off, cur, rfl, hg, hs, hcl⟩
      · have hn : n = 0 := by have := h.2.1; omega
        subst hn
        have : cs = [] := List.eq_nil_of_length_eq_zero (by omega)
        subst this
        exact run_firstCells_none w.drew k 0 0 c
      · exact run_firstCells_some w.drew k n ⟨g, off, none⟩ n c cs hcl0 (fun j u hj => by
          rw [Addr.add_mid]
          exact hcl j u hj)
    have hmul : (n + m) * bytes ≤ (n + m) * 64 := Nat.mul_le_mul_left _ hsm
    have hrun := fun ty => run_append_grow_src (P := Try.prog) w sl sl ty e i0 _ T.und hi hz0 A n c cs hold _ m xs hsrc (by omega) (by omega) (by rw [hz2]; exact growslice_fits (by omega) (by omega))
    have hG := grownCap_ge w (n + m) c e
    refine ⟨_, grownCap w (n + m) c e, _, hrun, ⟨hlen, hG, grownCap_le_maxLen w _ _ _ (by unfold maxLen; omega), .inr ⟨w.heap.size, 0, _, rfl, heap_alloc_new w.drew _, ?_, fun j u hu => ?_⟩⟩, (Only.drew _ w).alloc _, fun q hq => .inr ?_⟩
    · have e1 : grownCap w (n + m) c e * k = (n + m) * k + (grownCap w (n + m) c e - (n + m)) * k := by rw [← Nat.add_mul, Nat.add_sub_cancel' hG]
      simp only [Array.size_append, List.size_toArray, size_zeroCells, T.one]
      rw [hlen, e1]
      omega
    · rw [Nat.zero_add, World.cell?_alloc_at (w := w.drew) _ _ w.heap.size j rfl]
      have hj : j < (cs ++ xs).length := (List.getElem?_eq_some_iff.1 hu).1
      rw [Array.getElem?_append_left (by simpa using hj)]
      simpa using hu
    · injection hq with hq
      have hq' : w.heap.size = q := hq
      omega
/-- no element, appended -/
theorem MidK.app0 {sl : TypeId} {z : Value} {bytes : Nat} (T : ETK sl e k z bytes) (h : MidK e k w A c n cs) (B : Option Addr) (d : Nat) (ty : TypeId) : (Builtin.append_ #[sl, sl] ty #[.slice A n c, .slice B 0 d]).run Try.prog w = .ok (.slice A n c) w := by
  obtain ⟨i0, hi, hz0, hz1, hz2⟩ := info_parts T.info
  have hlc := h.2.1
  have hl0 : ∀ a : Addr, (loadCells a 0).run Try.prog w = .ok #[] w := fun a => by simpa using run_loadCells_list (P := Try.prog) w a [] (fun j v hj => by simp at hj)
  cases A <;> cases B <;> simp [Builtin.append_, run_underlying T.und, sizeOf, typeInfo, hi, Builtin.lenOf, Builtin.firstCells, hlc, storeCells, hl0]
  all_goals first | (rcases h.2.2.2 with ⟨_, h0⟩ | ⟨g, off, cur, e, _⟩ <;> simp_all)
/-- one new element, appended -/
theorem MidK.app1 {sl : TypeId} {z : Value} {bytes : Nat} (T : ETK sl e k z bytes) (hk : 0 < k) (h : MidK e k w A c n cs) (xs : List Value) (hxl : xs.length = k) (hx : ∀ u ∈ xs, u.oneCell' = true) (hby : n ≤ 100000) :
    ∃ A' c' w', (∀ ty, (Builtin.append_ #[sl, sl] ty #[.slice A n c, .slice (some ⟨w.heap.size, 0, none⟩) 1 1]).run Try.prog (w.alloc (.cells xs.toArray e)) = .ok (.slice A' (n + 1) c') w') ∧ MidK e k w' A' c' (n + 1) (cs ++ xs) ∧
      Only (fun q => blk A = some q) w w' ∧ ∀ q, blk A' = some q → blk A = some q ∨ w.heap.size ≤ q := by
  have oa : Only (fun q => blk A = some q) w (w.alloc (.cells xs.toArray e)) := (Only.refl _ w).alloc _
  have hs : Src Try.prog k sl (.slice (some ⟨w.heap.size, 0, none⟩) 1 1) 1 xs (w.alloc (.cells xs.toArray e)) :=
    Src.ofSlice _ T.und ⟨w.heap.size, 0, none⟩ 1 1 xs (by omega) (fun j u hj => by
      rw [Addr.add_mid, Nat.zero_add, cell_of_row _ _ j _ _ (0, 0) (heap_alloc_new w _)]
      simpa using hj) hx
  obtain ⟨A', c', w', r, m, o, kin⟩ := (h.only (F := fun _ => False) ((Only.refl _ w).alloc (.cells xs.toArray e)) (fun _ _ h => h)).app T hk _ 1 xs (by omega) hs (by omega)
  exact ⟨A', c', w', r, m, oa.trans o (fun _ _ h => h), fun q hq => (kin q hq).elim .inl (fun h => .inr (by simp at h; omega))⟩
end
end Go.Proofs.Ytdidmpimlodffaa

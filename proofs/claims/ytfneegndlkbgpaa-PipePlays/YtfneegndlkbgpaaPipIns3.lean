/- The library's Insert of one byte into a slice of the call's own, in one contract. Condition: it holds at most 1048576 bytes. -/
import Derived.Test.YtfneegndlkbgpaaPipIns2
namespace Go.Proofs.Ytfneegndlkbgpaa
open Go.RowKit Go.Lib
set_option linter.unusedVariables false

theorem ins_getD (l : List UInt8) (i : Nat) (y : UInt8) (hi : i ≤ l.length) (j : Nat) (hj : j < l.length + 1) :
    (l.take i ++ y :: l.drop i).getD j 0 = if j < i then l.getD j 0 else if j = i then y else l.getD (j - 1) 0 := by
  by_cases h1 : j < i
  · rw [if_pos h1]
    simp [List.getElem?_append, Nat.min_eq_left hi, h1, show j < l.length by omega]
  · rw [if_neg h1]
    by_cases h2 : j = i
    · subst h2
      simp [Nat.min_eq_left hi]
    · rw [if_neg h2]
      obtain ⟨k, rfl⟩ : ∃ k, j = i + (k + 1) := ⟨j - i - 1, by omega⟩
      simp [List.getElem?_append, Nat.min_eq_left hi, show ¬ i + (k + 1) < i by omega, show i + (k + 1) - i = k + 1 by omega, show i + (k + 1) - 1 = i + k by omega]
theorem ins_length (l : List UInt8) (i : Nat) (y : UInt8) (hi : i ≤ l.length) : (l.take i ++ y :: l.drop i).length = l.length + 1 := by simp; omega

/-- cells that are shifted by one, and one before them -/
theorem shifted {W : World} {g off i : Nat} {l : List UInt8} {y : UInt8} (hi : i < l.length) (hsp : ∀ j, j < l.length + 1 → (W.cell? ⟨g, off + j, none⟩).isSome = true) (hc : ∀ j, j < i → W.cell? ⟨g, off + j, none⟩ = some (bv (l.getD j 0))) :
    ∀ j, j < l.length + 1 → ((W.setCells g (off + (i + 1)) ((l.map bv).drop i)).setCells g (off + i) [bv y]).cell? ⟨g, off + j, none⟩ = some (bv ((l.take i ++ y :: l.drop i).getD j 0)) ∧
      ((W.setCells g (off + i) [bv y]).setCells g (off + (i + 1)) ((l.map bv).drop i)).cell? ⟨g, off + j, none⟩ = some (bv ((l.take i ++ y :: l.drop i).getD j 0)) := by
  intro j hj
  rw [ins_getD l i y (by omega) j hj]
  have hlen : ((l.map bv).drop i).length = l.length - i := by simp
  by_cases h1 : j < i
  · rw [if_pos h1]
    constructor
    · rw [World.cell?_setCells_out g _ _ _ _ (fun _ _ => .inl (by show off + j < _; omega)), World.cell?_setCells_out g _ _ _ _ (fun _ _ => .inl (by show off + j < _; omega)), hc j h1]
    · rw [World.cell?_setCells_out g _ _ _ _ (fun _ _ => .inl (by show off + j < _; omega)), World.cell?_setCells_out g _ _ _ _ (fun _ _ => .inl (by show off + j < _; omega)), hc j h1]
  · rw [if_neg h1]
    by_cases h2 : j = i
    · subst h2
      rw [if_pos rfl]
      constructor
      · have := World.cell?_setCells_in g [bv y] (off + j) (W.setCells g (off + (j + 1)) ((l.map bv).drop j)) (fun k hk => World.isSome_setCells _ _ _ _ _ (by simp at hk; subst hk; exact hsp j (by omega))) 0 (by simp)
        simpa using this
      · rw [World.cell?_setCells_out g _ _ _ _ (fun _ _ => .inl (by show off + j < _; omega))]
        have := World.cell?_setCells_in g [bv y] (off + j) W (fun k hk => by simp at hk; subst hk; exact hsp j (by omega)) 0 (by simp)
        simpa using this
    · rw [if_neg h2]
      obtain ⟨k, rfl⟩ : ∃ k, j = i + (k + 1) := ⟨j - i - 1, by omega⟩
      have hk : k < ((l.map bv).drop i).length := by rw [hlen]; omega
      have hv : ((l.map bv).drop i)[k] = bv (l.getD (i + (k + 1) - 1) 0) := by simp [show i + (k + 1) - 1 = i + k by omega, show i + k < l.length by omega]
      rw [show off + (i + (k + 1)) = off + (i + 1) + k by omega, ← hv]
      constructor
      · rw [World.cell?_setCells_out g _ _ _ _ (fun _ _ => .inr (by show off + i + 1 ≤ off + (i + 1) + k; omega))]
        exact World.cell?_setCells_in g _ (off + (i + 1)) W (fun m hm => by rw [Nat.add_assoc]; exact hsp _ (by omega)) k hk
      · exact World.cell?_setCells_in g _ (off + (i + 1)) _ (fun m hm => World.isSome_setCells _ _ _ _ _ (by rw [Nat.add_assoc]; exact hsp _ (by omega))) k hk

theorem ins_calls {w : World} {A : Option Addr} {c : Nat} {l : List UInt8} (h : Mid w A c l) (y : UInt8) (i : Nat) (hi : i ≤ l.length) (hby : l.length ≤ 1048576) :
    Calls Try.prog 24 #[.slice A l.length c, .int .i64 (i : Int), .slice (some ⟨w.heap.size, 0, none⟩) 1 1] (laid w [y]) fun e w' =>
      ∃ A' c', e = .returned (.slice A' (l.take i ++ y :: l.drop i).length c') ∧ Mid w' A' c' (l.take i ++ y :: l.drop i) ∧ Only (fun k => blk A = some k) w w' ∧ ∀ k, blk A' = some k → blk A = some k ∨ w.heap.size ≤ k := by
  have o1 : Only (fun k => blk A = some k) w (laid w [y]) := Only.of_below _ (laid_below w [y])
  have h1 : Mid (laid w [y]) A c l := h.only (F := fun _ => False) (Only.of_below _ (laid_below w [y])) (fun _ _ h => h)
  have hs := laid_size w [y]
  have hvb : (laid w [y]).heap[w.heap.size]? = some (.cells #[bv y] 5 (0, 0)) := laid_block w [y]
  by_cases he : i = l.length
  · subst he
    obtain ⟨A', c', w', run, hm, on, kin⟩ := h1.app (some ⟨w.heap.size, 0, none⟩) 1 [y] (laid_rd w [y]) (by simp; omega)
    have hl : (l ++ [y]).length = l.length + 1 := by simp
    rw [hl] at run
    refine (ins_end (laid w [y]) w' A A' l.length c c' w.heap.size h.1 (by have := h.2.1; unfold maxLen at this; omega) (by
      rcases h.2.2 with h0 | ⟨g, off, _, e, _⟩
      · exact .inl h0
      · exact .inr ⟨g, off, e⟩) run).mono ?_
    rintro e w'' ⟨rfl, rfl⟩
    have el : l.take l.length ++ y :: l.drop l.length = l ++ [y] := by simp
    rw [el, hl]
    refine ⟨A', c', rfl, hm, o1.trans on (fun _ _ h => h), fun k hk => ?_⟩
    rcases kin k hk with h' | h'
    · exact .inl h'
    · exact .inr (by omega)
  · have hlt : i < l.length := by omega
    rcases h1.2.2 with ⟨_, h0⟩ | ⟨g, off, cur, rfl, hg, hsz, hcl⟩
    · have := h.1; omega
    have hgw : g < w.heap.size := h.blk_lt g rfl
    rw [ins_length l i y hi]
    have hcs : ∀ j u, (l.map bv)[j]? = some u → (laid w [y]).cell? ⟨g, off + j, none⟩ = some u := fun j u hj => by
      obtain ⟨a, b⟩ := bvs_get hj
      rw [b]
      exact hcl j a
    by_cases hroom : l.length + 1 ≤ c
    · refine (ins_shift (laid w [y]) g off l.length c i w.heap.size (l.map bv) cur.toList (bv y) hlt hroom (by have := h.2.1; unfold maxLen at this; omega) (by omega) (by simp) hcs (bvs_one l) rfl (by simpa using hg) (by simpa using hsz) hvb).mono ?_
      rintro e w' ⟨rfl, rfl⟩
      have hd : (laid w [y]).drew.heap[g]? = some (.cells cur 5 (0, 0)) := hg
      obtain ⟨c1, hc1, hz1⟩ := setCells_block g 5 ((l.map bv).drop i) (off + (i + 1)) _ cur hd
      obtain ⟨c2, hc2, hz2⟩ := setCells_block g 5 [bv y] (off + i) _ c1 hc1
      refine ⟨_, _, rfl, ⟨by rw [ins_length l i y hi]; exact hroom, h.2.1, .inr ⟨g, off, c2, rfl, hc2, by omega, fun j hj => ?_⟩⟩, ?_, fun k hk => .inl hk⟩
      · rw [ins_length l i y hi] at hj
        exact (shifted (W := (laid w [y]).drew) hlt (fun j hj => some_of_row hd (by omega)) (fun j hj => hcl j (by omega)) j hj).1
      · exact ((o1.trans (Only.drew (fun _ => False) _) (fun _ _ h => h.elim)).trans ((Only.setCells _ g _ _).trans (Only.setCells _ g _ _) (fun _ _ h => h)) (fun k _ e => by rw [e]; rfl))
    · have hc : c = l.length := by have := h.1; omega
      subst hc
      obtain ⟨G, hG⟩ : ∃ G, G = grownCap (laid w [y]) (l.length + 1) l.length 5 := ⟨_, rfl⟩
      obtain ⟨ROW, hROW⟩ : ∃ ROW : Array Value, ROW = ((l.map bv).take i).toArray ++ Builtin.zeroCells (Value.int .u8 0).cells (l.length + 1 - i) ++ Builtin.zeroCells (Value.int .u8 0).cells (G - (l.length + 1)) := ⟨_, rfl⟩
      have hGn : l.length + 1 ≤ G := by rw [hG]; exact grownCap_ge _ _ _ _
      have hGm : G ≤ maxLen := by rw [hG]; exact grownCap_le_maxLen _ _ _ _ (by unfold maxLen; omega)
      have hRs : ROW.size = G := by
        rw [hROW]
        simp [Builtin.zeroCells, Value.cells]
        omega
      refine (ins_grow (laid w [y]) g off l.length i w.heap.size G (l.map bv) (bv y) ROW hlt hby (by simp) hcs (bvs_one l) rfl (by rw [cell_of_row _ _ 0 _ _ (0, 0) hvb]; rfl) hG hROW).mono ?_
      rintro e w' ⟨rfl, rfl⟩
      obtain ⟨V, hV⟩ : ∃ V, V = (laid w [y]).alloc (.cells ROW 5) := ⟨_, rfl⟩
      obtain ⟨N, hN⟩ : ∃ N, N = (laid w [y]).heap.size := ⟨_, rfl⟩
      rw [← hV, ← hN]
      have hd : V.drew.heap[N]? = some (.cells ROW 5 (0, 0)) := by rw [hV, hN]; exact heap_alloc_new _ _
      have hcV : ∀ j, j < i → V.drew.cell? ⟨N, 0 + j, none⟩ = some (bv (l.getD j 0)) := fun j hj => by
        rw [Nat.zero_add, cell_of_row _ _ j _ _ (0, 0) hd, hROW]
        simp [Array.getElem?_append, hj, show j < l.length by omega, Nat.min_eq_left hi]
      obtain ⟨c1, hc1, hz1⟩ := setCells_block N 5 [bv y] i _ ROW hd
      have hc1' : (V.drew.setCells N i [bv y]).drew.heap[N]? = some (.cells c1 5 (0, 0)) := hc1
      obtain ⟨c2, hc2, hz2⟩ := setCells_block N 5 ((l.map bv).drop i) (i + 1) _ c1 hc1'
      have oN : Only (fun k => k = N) V ((V.drew.setCells N i [bv y]).drew.setCells N (i + 1) ((l.map bv).drop i)) :=
        (((Only.drew _ V).trans (Only.setCells _ N _ _) (fun _ _ h => h)).trans (Only.drew (fun _ => False) _) (fun _ _ h => h.elim)).trans (Only.setCells _ N _ _) (fun _ _ h => h)
      refine ⟨_, _, rfl, ⟨by rw [ins_length l i y hi]; exact hGn, hGm, .inr ⟨N, 0, c2, rfl, hc2, by omega, fun j hj => ?_⟩⟩, ?_, fun k hk => .inr ?_⟩
      · rw [ins_length l i y hi] at hj
        have hd2 : V.drew.drew.heap[N]? = some (.cells ROW 5 (0, 0)) := hd
        have := (shifted (W := V.drew.drew) (off := 0) (y := y) hlt (fun j hj => some_of_row hd2 (by omega)) hcV j hj).2
        rw [drew_setCells]
        simp only [Nat.zero_add] at this ⊢
        exact this
      · exact (o1.trans (G := fun k => k = N) (by rw [hV] at oN; rw [hV]; exact ((Only.refl _ _).alloc _).trans oN (fun _ _ h => h)) (fun k hk e => by rw [e, hN, hs] at hk; omega))
      · injection hk with hk
        have hk' : N = k := hk
        omega
end Go.Proofs.Ytfneegndlkbgpaa

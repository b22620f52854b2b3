/- The timers that run out within n steps: as a list in the order of their numbers; sorted by rank; in memory. No condition. -/
import Derived.Test.YtfikllghajhigaaClkCmp
import Derived.Test.YtfikllghajhigaaIntRows
namespace Go.Proofs.Ytfikllghajhigaa
open Go.Proofs Go.RowKit Go.Lib Go.Sort
set_option linter.unusedVariables false

/-- does the timer run out within n steps? -/
def due (l : List Nat) (n : Nat) (x : Fin 32) : Prop := 0 < key l x ∧ key l x ≤ n
instance (l : List Nat) (n : Nat) (x : Fin 32) : Decidable (due l n x) := inferInstanceAs (Decidable (_ ∧ _))
/-- those below i, in the order of their numbers -/
def ids (l : List Nat) (n : Nat) : Nat → List (Fin 32)
  | 0 => []
  | i + 1 => if h : i < 32 then (if due l n ⟨i, h⟩ then ids l n i ++ [⟨i, h⟩] else ids l n i) else ids l n i
theorem ids_yes {l : List Nat} {n i : Nat} (h : i < 32) (hd : due l n ⟨i, h⟩) : ids l n (i + 1) = ids l n i ++ [⟨i, h⟩] := by rw [ids, dif_pos h, if_pos hd]
theorem ids_no {l : List Nat} {n i : Nat} (h : i < 32) (hd : ¬ due l n ⟨i, h⟩) : ids l n (i + 1) = ids l n i := by rw [ids, dif_pos h, if_neg hd]
theorem mem_ids {l : List Nat} {n : Nat} : ∀ (i : Nat) (x : Fin 32), x ∈ ids l n i ↔ x.val < i ∧ due l n x
  | 0, x => by simp [ids]
  | i + 1, x => by
    have ih := mem_ids (l := l) (n := n) i x
    by_cases h : i < 32
    · by_cases hd : due l n ⟨i, h⟩
      · rw [ids_yes h hd, List.mem_append, ih, List.mem_singleton]
        constructor
        · rintro (⟨h1, h2⟩ | rfl)
          · exact ⟨by omega, h2⟩
          · exact ⟨Nat.lt_succ_self _, hd⟩
        · rintro ⟨h1, h2⟩
          by_cases e : x.val = i
          · exact .inr (Fin.ext e)
          · exact .inl ⟨by omega, h2⟩
      · rw [ids_no h hd, ih]
        constructor
        · rintro ⟨h1, h2⟩
          exact ⟨by omega, h2⟩
        · rintro ⟨h1, h2⟩
          refine ⟨?_, h2⟩
          by_cases e : x.val = i
          · exact absurd (show due l n ⟨i, h⟩ by have : x = ⟨i, h⟩ := Fin.ext e; rw [← this]; exact h2) hd
          · omega
    · rw [ids, dif_neg h, ih]
      have := x.isLt
      constructor <;> rintro ⟨h1, h2⟩ <;> exact ⟨by omega, h2⟩
theorem ids_len {l : List Nat} {n : Nat} : ∀ i, (ids l n i).length ≤ i
  | 0 => by simp [ids]
  | i + 1 => by
    have ih := ids_len (l := l) (n := n) i
    rw [ids]
    repeat' split
    all_goals (try rw [List.length_append]) <;> simp <;> omega
theorem ids_up {l : List Nat} {n : Nat} : ∀ i, (ids l n i).Pairwise (fun x y => x.val < y.val)
  | 0 => by simp [ids]
  | i + 1 => by
    have ih := ids_up (l := l) (n := n) i
    by_cases h : i < 32
    · by_cases hd : due l n ⟨i, h⟩
      · rw [ids_yes h hd, List.pairwise_append]
        refine ⟨ih, List.pairwise_singleton _ _, fun x hx y hy => ?_⟩
        rw [List.mem_singleton.1 hy]
        exact ((mem_ids i x).1 hx).1
      · rw [ids_no h hd]; exact ih
    · rw [ids, dif_neg h]; exact ih
/-- L: what runs out within n steps, in the order in which it does -/
def Exp (l : List Nat) (n : Nat) (L : List (Fin 32)) : Prop := L.Pairwise (fun x y => rank l x < rank l y) ∧ ∀ x, x ∈ L ↔ due l n x
theorem sorted_unique {r : Fin 32 → Nat} : ∀ {L M : List (Fin 32)}, L.Pairwise (fun x y => r x < r y) → M.Pairwise (fun x y => r x < r y) → (∀ x, x ∈ L ↔ x ∈ M) → L = M
  | [], [], _, _, _ => rfl
  | [], y :: M, _, _, h => absurd ((h y).2 (List.mem_cons_self ..)) (by simp)
  | x :: L, [], _, _, h => absurd ((h x).1 (List.mem_cons_self ..)) (by simp)
  | x :: L, y :: M, h1, h2, h => by
    rw [List.pairwise_cons] at h1 h2
    have e : x = y := by
      rcases List.mem_cons.1 ((h x).1 (List.mem_cons_self ..)) with e | hx
      · exact e
      · rcases List.mem_cons.1 ((h y).2 (List.mem_cons_self ..)) with e | hy
        · exact e.symm
        · have := h2.1 x hx
          have := h1.1 y hy
          omega
    subst e
    congr 1
    refine sorted_unique h1.2 h2.2 fun z => ⟨fun hz => ?_, fun hz => ?_⟩
    · rcases List.mem_cons.1 ((h z).1 (List.mem_cons_of_mem _ hz)) with rfl | h'
      · have := h1.1 z hz; omega
      · exact h'
    · rcases List.mem_cons.1 ((h z).2 (List.mem_cons_of_mem _ hz)) with rfl | h'
      · have := h2.1 z hz; omega
      · exact h'
theorem Exp.unique {l : List Nat} {n : Nat} {L M : List (Fin 32)} (h1 : Exp l n L) (h2 : Exp l n M) : L = M := sorted_unique h1.1 h2.1 fun x => (h1.2 x).trans (h2.2 x).symm

theorem ix_list (L : List (Fin 32)) {j : Nat} (hj : j < L.length) : ix L.toArray j = L[j] := by
  unfold ix
  rw [getElem!_pos _ j (by simpa using hj)]
  simp
theorem ix_toList (d : Array (Fin 32)) {j : Nat} (hj : j < d.toList.length) : ix d j = d.toList[j] := by
  unfold ix
  rw [getElem!_pos d j (by simpa using hj)]
  simp
theorem Exp.of_sort {l : List Nat} {n : Nat} {d : Array (Fin 32)} (hs : d.size = (ids l n 32).length) (T : Srt (rank l) 0 (ids l n 32).length (ix d)) (M : Same 0 (ids l n 32).length (ix (ids l n 32).toArray) (ix d)) : Exp l n d.toList := by
  have hl : d.toList.length = (ids l n 32).length := by simpa using hs
  refine ⟨?_, fun x => ?_⟩
  · rw [List.pairwise_iff_getElem]
    intro i j hi hj hij
    rw [← ix_toList d hi, ← ix_toList d hj]
    exact T i j (Nat.zero_le _) hij (by omega)
  · have key : x ∈ d.toList ↔ x ∈ ids l n 32 := by
      constructor
      · intro hx
        obtain ⟨i, hi, rfl⟩ := List.mem_iff_getElem.1 hx
        obtain ⟨j, _, h2, e⟩ := M.fwd i (Nat.zero_le _) (by omega)
        rw [← ix_toList d hi, e, ix_list _ h2]
        exact List.getElem_mem h2
      · intro hx
        obtain ⟨i, hi, rfl⟩ := List.mem_iff_getElem.1 hx
        obtain ⟨j, _, h2, e⟩ := M.bwd i (Nat.zero_le _) hi
        rw [← ix_list _ hi, e, ix_toList d (by omega)]
        exact List.getElem_mem _
    rw [key, mem_ids]
    exact ⟨fun h => h.2, fun h => ⟨x.isLt, h⟩⟩

/-! in memory -/
/-- the slice owns the timers' numbers L, in a block from base on -/
def IOwn (w : World) (base : Nat) (A : Option Addr) (c : Nat) (L : List (Fin 32)) : Prop := w.ownsRow base 3 1 (.slice A L.length c) L.length (L.map eid) ∧ (L = [] → A = none ∧ c = 0)
theorem IOwn.nil (w : World) (base : Nat) : IOwn w base none 0 [] := ⟨World.ownsRow_nil _ _ _ _, fun _ => ⟨rfl, rfl⟩⟩
theorem infoI : (Try.prog.info? 3).map (fun i => (i.zero, i.size, i.bytes)) = some (some (.int .i64 0), 1, 8) := by kernel_rfl
theorem IOwn.parts {w : World} {base : Nat} {A : Option Addr} {c : Nat} {L : List (Fin 32)} (h : IOwn w base A c L) (hl : L ≠ []) :
    ∃ g, A = some ⟨g, 0, none⟩ ∧ base ≤ g ∧ g < w.heap.size ∧ L.length ≤ c ∧ (∀ j (hj : j < L.length), w.cell? ⟨g, 0 + j, none⟩ = some (eid L[j])) ∧ ∀ j, w.frozen? ⟨g, j, none⟩ = false := by
  have hp := List.length_pos_iff.2 hl
  have h' := h.1
  rcases h.1.2 with ⟨_, h0⟩ | ⟨g, cap, cur, hv, hb, hh, hn, hm, _⟩
  · omega
  injection hv with hA _ hc
  subst hA hc
  refine ⟨g, rfl, hb, lt_of_block hh, hn, fun j hj => ?_, fun j => frozen_of_row w g j _ _ hh⟩
  rw [Nat.zero_add, World.ownsRow.cellAt h' j (by omega)]
  simp [List.getElem?_eq_getElem hj]
theorem IOwn.app {w : World} {base : Nat} {A : Option Addr} {c : Nat} {L : List (Fin 32)} (h : IOwn w base A c L) (hb : base ≤ w.heap.size) (hlen : L.length ≤ 100000) (x : Fin 32) :
    ∃ A' c' w', (∀ ty, (Builtin.append_ #[34, 34] ty #[.slice A L.length c, .slice (some ⟨w.heap.size, 0, none⟩) 1 1]).run Try.prog (w.alloc (.cells #[eid x] 3)) = .ok (.slice A' (L.length + 1) c') w') ∧ IOwn w' base A' c' (L ++ [x]) ∧ Below base w w' := by
  obtain ⟨i0, hi, hz0, hz1, hz2⟩ := info_parts infoI
  obtain ⟨B', d', w2, r, o, on, kin⟩ := app_kin (w.alloc (.cells #[eid x] 3)) base 34 3 i0 _ 8 Try.underlying34 hi hz0 hz1 hz2 rfl A c L.length (L.map eid) (World.ownsRow.alloc h.1 _) ⟨w.heap.size, 0, none⟩ 1 1 [eid x] rfl
    (fun j u hu => by
      rw [Go.WideShapes.add_plain, Nat.zero_add, cell_of_row _ _ j _ _ (0, 0) (heap_alloc_new w _)]
      simpa using hu)
    (fun u hu => by simp at hu; subst hu; rfl) (by unfold maxLen; omega) (by omega) (by simp; omega) (by decide)
  refine ⟨B', d', w2, r, ⟨by simpa using o, fun e => by simp at e⟩, ?_⟩
  have b1 : Below base w (w.alloc (.cells #[eid x] 3)) := (Below.refl base w).alloc hb _
  refine b1.trans (on.below (fun k hk => ?_) (by simp; omega))
  by_cases hl : L = []
  · rw [(h.2 hl).1] at hk
    cases hk
  · obtain ⟨g, rfl, hg, _⟩ := h.parts hl
    injection hk with hk
    have hk' : g = k := hk
    omega
theorem IOwn.holds {w : World} {base : Nat} {A : Option Addr} {c : Nat} {L : List (Fin 32)} (h : IOwn w base A c L) (hl : L ≠ []) :
    ∃ g, A = some ⟨g, 0, none⟩ ∧ base ≤ g ∧ Row1 eid w g 0 L.toArray := by
  obtain ⟨g, rfl, hg, hs, hc, hcell, hfr⟩ := h.parts hl
  refine ⟨g, rfl, hg, fun _ => rfl, fun j hj => ⟨?_, hfr _⟩, hs⟩
  have hj' : j < L.length := by simpa using hj
  rw [hcell j hj']
  have := ix_list L hj'
  unfold ix at this
  rw [this]
/-- the numbers as ints -/
def ints (L : List (Fin 32)) : List Int := L.map fun x => ((x.val : Nat) : Int)
theorem only_of_sw {w W : World} {bk off : Nat} {d : Array (Fin 32)} (h : SW eid w bk off d W) : Only (fun k => k = bk) w W := by
  have hs := h.le
  obtain ⟨n, os, rfl⟩ := h
  refine ⟨rfl, rfl, rfl, hs, fun k hk hne => ?_⟩
  unfold sortWorld grow putRow mapBlock
  simp only [Sort.ahead]
  rw [Array.getElem?_append_left (by simpa using hk)]
  simp [Array.getElem?_modify, Ne.symm hne]
theorem rdI_of_sw {w W : World} {bk : Nat} {d0 d : Array (Fin 32)} (h : SW eid w bk 0 d W) (R : Row1 eid w bk 0 d0) (hs : d.size = d0.size) : RdI W (some ⟨bk, 0, none⟩) (ints d.toList) := fun _ => by
  refine ⟨bk, 0, rfl, fun j hj => ?_⟩
  have hj' : j < d.size := by simpa [ints] using hj
  rw [h.c1 R hs j hj']
  have e := ix_toList d (j := j) (by simpa using hj')
  unfold ix at e
  rw [e]
  simp [ints, eid, hj']
end Go.Proofs.Ytfikllghajhigaa

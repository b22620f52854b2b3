/- The order in which timers run out, found one by one. No condition. -/
import Derived.Test.YtfikllghajhigaaClkRef
import Derived.Test.YtfikllghajhigaaClkLen
namespace Go.Proofs.Ytfikllghajhigaa
open Go.Proofs Go.RowKit Go.Lib Go.Sort
set_option linter.unusedVariables false

theorem Only.then_below {F : Nat → Prop} {w v v' : World} (o : Only F w v) (b : Below w.heap.size v v') : Only F w v' :=
  ⟨b.os.trans o.os, b.tape.trans o.tape, b.output.trans o.output, Nat.le_trans o.size b.size, fun k hk hF => (b.block k hk).trans (o.block k hk hF)⟩
theorem Only.then_drewN {F : Nat → Prop} {w v : World} (o : Only F w v) (m : Nat) : Only F w (v.drewN m) := ⟨o.os, o.tape, o.output, o.size, o.block⟩

/-- what stands after L has been taken -/
def Left (l l' : List Nat) (L : List (Fin 32)) : Prop := ∀ x, key l' x = if x ∈ L then 0 else key l x
/-- L is the first part of what runs out within n steps -/
structure Part (l l' : List Nat) (n : Nat) (L : List (Fin 32)) : Prop where
  left : Left l l' L
  up : L.Pairwise (fun x y => rank l x < rank l y)
  due : ∀ x ∈ L, due l n x
  low : ∀ x ∈ L, ∀ y, y ∉ L → Go.Proofs.Ytfikllghajhigaa.due l n y → rank l x < rank l y
theorem Part.nil (l : List Nat) (n : Nat) : Part l l n [] := ⟨fun x => by simp, List.Pairwise.nil, fun x h => (by cases h), fun x h => (by cases h)⟩
theorem Part.len {l l' : List Nat} {n : Nat} {L : List (Fin 32)} (h : Part l l' n L) : L.length ≤ 32 := by
  have e := nodup_len (M := ids l n 32) (ne_of_up h.up) fun x hx => (mem_ids 32 x).2 ⟨x.isLt, h.due x hx⟩
  have := ids_len (l := l) (n := n) 32
  omega
theorem Part.due' {l l' : List Nat} {n : Nat} {L : List (Fin 32)} (h : Part l l' n L) (x : Fin 32) : Go.Proofs.Ytfikllghajhigaa.due l' n x ↔ x ∉ L ∧ Go.Proofs.Ytfikllghajhigaa.due l n x := by
  unfold Go.Proofs.Ytfikllghajhigaa.due
  rw [h.left x]
  by_cases hx : x ∈ L
  · simp [hx]
  · simp [hx]
theorem Part.rank' {l l' : List Nat} {n : Nat} {L : List (Fin 32)} (h : Part l l' n L) {x : Fin 32} (hx : x ∉ L) : rank l' x = rank l x := by
  unfold rank
  rw [h.left x, if_neg hx]
theorem key_set (l : List Nat) (hl : l.length = 32) (y x : Fin 32) (z : Nat) : key (l.set y.val z) x = if x = y then z else key l x := by
  unfold key
  have hx := x.isLt
  rw [List.getD_eq_getElem?_getD, List.getElem?_set, List.getD_eq_getElem?_getD]
  by_cases h : x = y
  · subst h
    rw [if_pos rfl, if_pos rfl, if_pos (by omega)]
    rfl
  · rw [if_neg (fun e => h (Fin.ext e.symm)), if_neg h]
theorem Part.step {l l' : List Nat} {n : Nat} {L : List (Fin 32)} (h : Part l l' n L) (hl : l'.length = 32) {y : Fin 32} (hy : Go.Proofs.Ytfikllghajhigaa.due l' n y) (hm : ∀ x, Go.Proofs.Ytfikllghajhigaa.due l' n x → rank l' y ≤ rank l' x) : Part l (l'.set y.val 0) n (L ++ [y]) := by
  obtain ⟨hyL, hyd⟩ := (h.due' y).1 hy
  refine ⟨fun x => ?_, ?_, fun x hx => ?_, fun x hx z hz hd => ?_⟩
  · rw [key_set l' hl, h.left x]
    by_cases e : x = y
    · subst e; simp
    · simp [e]
  · rw [List.pairwise_append]
    refine ⟨h.up, List.pairwise_singleton _ _, fun x hx z hz => ?_⟩
    rw [List.mem_singleton.1 hz]
    exact h.low x hx y hyL hyd
  · rcases List.mem_append.1 hx with hx | hx
    · exact h.due x hx
    · rw [List.mem_singleton.1 hx]; exact hyd
  · have hzL : z ∉ L := fun e => hz (List.mem_append_left _ e)
    have hzy : z ≠ y := fun e => hz (by rw [e]; simp)
    rcases List.mem_append.1 hx with hx | hx
    · exact h.low x hx z hzL hd
    · rw [List.mem_singleton.1 hx]
      have := hm z ((h.due' z).2 ⟨hzL, hd⟩)
      rw [h.rank' hyL, h.rank' hzL] at this
      have hne : rank l y ≠ rank l z := by
        intro e
        unfold rank at e
        have := y.isLt
        have := z.isLt
        exact hzy (Fin.ext (by omega))
      omega
theorem Part.done {l l' : List Nat} {n : Nat} {L : List (Fin 32)} (h : Part l l' n L) (hn : ∀ x, ¬ Go.Proofs.Ytfikllghajhigaa.due l' n x) : Exp l n L := by
  refine ⟨h.up, fun x => ⟨h.due x, fun hd => ?_⟩⟩
  by_cases hx : x ∈ L
  · exact hx
  · exact absurd ((h.due' x).2 ⟨hx, hd⟩) (hn x)
theorem Part.rest {l l' : List Nat} {n : Nat} {L : List (Fin 32)} (h : Part l l' n L) (h1 : l.length = 32) (h2 : l'.length = 32) : l'.map (· - n) = l.map (· - n) := by
  apply List.ext_getElem (by simp [h1, h2])
  intro i hi hi'
  have hi1 : i < 32 := by simpa [h2] using hi
  have hk := h.left ⟨i, hi1⟩
  unfold key at hk
  rw [List.getD_eq_getElem?_getD, List.getD_eq_getElem?_getD, List.getElem?_eq_getElem (show i < l'.length by omega), List.getElem?_eq_getElem (show i < l.length by omega)] at hk
  simp only [Option.getD_some] at hk
  rw [List.getElem_map, List.getElem_map, hk]
  by_cases hx : (⟨i, hi1⟩ : Fin 32) ∈ L
  · rw [if_pos hx]
    have := (h.due _ hx).2
    unfold key at this
    rw [List.getD_eq_getElem?_getD, List.getElem?_eq_getElem (show i < l.length by omega)] at this
    simp only [Option.getD_some] at this
    omega
  · rw [if_neg hx]
/-- the search for the first of those that run out: it has looked at those below i -/
def Found (l : List Nat) (n i : Nat) (k : Int) : Prop :=
  (k = -1 ∧ ∀ x : Fin 32, x.val < i → ¬ due l n x) ∨ ∃ y : Fin 32, k = ((y.val : Nat) : Int) ∧ y.val < i ∧ due l n y ∧ ∀ x : Fin 32, x.val < i → due l n x → rank l y ≤ rank l x
theorem Found.zero (l : List Nat) (n : Nat) : Found l n 0 (-1) := .inl ⟨rfl, fun x hx => by omega⟩
theorem Found.no {l : List Nat} {n i : Nat} {k : Int} (h : Found l n i k) (hi : i < 32) (hd : ¬ due l n ⟨i, hi⟩) : Found l n (i + 1) k := by
  have hc : ∀ x : Fin 32, x.val < i + 1 → due l n x → x.val < i := fun x hx hx' => by
    by_cases e : x.val = i
    · exact absurd (show due l n ⟨i, hi⟩ by have : x = ⟨i, hi⟩ := Fin.ext e; rw [← this]; exact hx') hd
    · omega
  rcases h with ⟨h1, h2⟩ | ⟨y, h1, h2, h3, h4⟩
  · exact .inl ⟨h1, fun x hx hx' => h2 x (hc x hx hx') hx'⟩
  · exact .inr ⟨y, h1, by omega, h3, fun x hx hx' => h4 x (hc x hx hx') hx'⟩
theorem Found.first {l : List Nat} {n i : Nat} (h : Found l n i (-1)) (hi : i < 32) (hd : due l n ⟨i, hi⟩) : Found l n (i + 1) (i : Int) := by
  refine .inr ⟨⟨i, hi⟩, rfl, Nat.lt_succ_self _, hd, fun x hx hx' => ?_⟩
  rcases h with ⟨_, h2⟩ | ⟨y, h1, _⟩
  · by_cases e : x.val = i
    · rw [show x = ⟨i, hi⟩ from Fin.ext e]; exact Nat.le_refl _
    · exact absurd hx' (h2 x (by omega))
  · omega
theorem Found.less {l : List Nat} {n i : Nat} {y : Fin 32} (h : Found l n i ((y.val : Nat) : Int)) (hi : i < 32) (hd : due l n ⟨i, hi⟩) (hk : key l ⟨i, hi⟩ < key l y) : Found l n (i + 1) (i : Int) := by
  refine .inr ⟨⟨i, hi⟩, rfl, Nat.lt_succ_self _, hd, fun x hx hx' => ?_⟩
  rcases h with ⟨h1, _⟩ | ⟨z, h1, h2, h3, h4⟩
  · omega
  · obtain rfl : y = z := Fin.ext (by omega)
    by_cases e : x.val = i
    · rw [show x = ⟨i, hi⟩ from Fin.ext e]; exact Nat.le_refl _
    · have := h4 x (by omega) hx'
      refine Nat.le_trans (Nat.le_of_lt ?_) this
      unfold rank
      simp only
      omega
theorem Found.more {l : List Nat} {n i : Nat} {y : Fin 32} (h : Found l n i ((y.val : Nat) : Int)) (hi : i < 32) (hk : ¬ key l ⟨i, hi⟩ < key l y) : Found l n (i + 1) ((y.val : Nat) : Int) := by
  rcases h with ⟨h1, _⟩ | ⟨z, h1, h2, h3, h4⟩
  · omega
  · obtain rfl : y = z := Fin.ext (by omega)
    refine .inr ⟨y, rfl, by omega, h3, fun x hx hx' => ?_⟩
    by_cases e : x.val = i
    · rw [show x = ⟨i, hi⟩ from Fin.ext e]
      unfold rank
      simp only
      omega
    · exact h4 x (by omega) hx'
end Go.Proofs.Ytfikllghajhigaa

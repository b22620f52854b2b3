/- Two rows of the same numbers, mixed: what stands between two of them, plainly and in memory. No condition. -/
import Derived.Test.YtfhlogkdmjdpdaaTwnOncePlain
import Derived.Test.YtfhlogkdmjdpdaaTwnAlive
import Derived.Test.YtfhlogkdmjdpdaaNumOwn
import Derived.Laws.MakeOwn
namespace Go.Proofs.Ytfhlogkdmjdpdaa
open Go.RowKit
set_option linter.unusedVariables false

/-- a of the first row and b of the second have been; the table m, the counts T -/
structure Sa (f S n : Nat) (l : List Int) (a b : Nat) (m : Tb) (T : List Nat) : Prop where
  ha : a ≤ n
  hb : b ≤ n
  hab : a + 1 ≤ b + S
  hba : b + 1 ≤ a + S
  kn : Kn m f (Rab (f1 l) (f2 l) a b)
  size : m.S = S
  len : T.length = n
  times : ∀ j, j < n → T.getD j 0 = if Rab (f1 l) (f2 l) a b j then 1 else 0
section
variable {f S n : Nat} {l : List Int} {a b : Nat} {m : Tb} {T : List Nat}
theorem Sa.start (hS : 2 ≤ S) (hS2 : S ≤ 64) : Sa f S n l 0 0 (tnew (S : Int)) (List.replicate n 0) := by
  have hR : ∀ k, Rab (f1 l) (f2 l) 0 0 k = false := fun k => by simp [Rab]
  refine ⟨Nat.zero_le _, Nat.zero_le _, by omega, by omega, ⟨fun _ => hR, fun e => (by cases e)⟩, by show tsz (S : Int) = S; unfold tsz; omega, by simp, fun j hj => ?_⟩
  rw [hR]
  simp [hj]
theorem set_getD (T : List Nat) (k x j : Nat) (hk : k < T.length) : (T.set k x).getD j 0 = if j = k then x else T.getD j 0 := by
  by_cases e : j = k
  · subst e
    simp [hk]
  · simp [e, Ne.symm e]
/-- one more of the first row, lost -/
theorem Sa.no1 (h : Sa f S n l a b m T) (hn : a < n) (hs : a + 2 ≤ b + S) (hl : f1 l a = false) : Sa f S n l (a + 1) b m T := by
  have e := rab_no1 (l1 := f1 l) (l2 := f2 l) (b := b) hl
  have hba := h.hba
  exact ⟨by omega, h.hb, by omega, by omega, by rw [e]; exact h.kn, h.size, h.len, by rw [e]; exact h.times⟩
theorem Sa.no2 (h : Sa f S n l a b m T) (hn : b < n) (hs : b + 2 ≤ a + S) (hl : f2 l b = false) : Sa f S n l a (b + 1) m T := by
  have e := rab_no2 (l1 := f1 l) (l2 := f2 l) (a := a) hl
  have hab := h.hab
  exact ⟨h.ha, by omega, by omega, by omega, by rw [e]; exact h.kn, h.size, h.len, by rw [e]; exact h.times⟩
/-- one more of either row, that comes -/
theorem Sa.came (h : Sa f S n l a b m T) (hn' : n ≤ 100) {k a' b' : Nat} (hk : k < n) (hkab : k = a ∨ k = b) (ha' : a' ≤ n) (hb' : b' ≤ n) (hab' : a' + 1 ≤ b' + S) (hba' : b' + 1 ≤ a' + S)
    (e : Rab (f1 l) (f2 l) a' b' = fun i => if i = k then true else Rab (f1 l) (f2 l) a b i) :
    (m.isNew ((f + k) % 4294967296) = true → Sa f S n l a' b' (m.got ((f + k) % 4294967296)) (T.set k (T.getD k 0 + 1)) ∧ T.getD k 0 = 0) ∧ (m.isNew ((f + k) % 4294967296) = false → Sa f S n l a' b' (m.got ((f + k) % 4294967296)) T) := by
  have near : ∀ j, Rab (f1 l) (f2 l) a b j = true → j < k + m.S := fun j hj => by
    have h1 := rab_lt hj
    have h2 := h.hab
    have h3 := h.hba
    rw [h.size]
    omega
  obtain ⟨h1, h2⟩ := h.kn.step (k := k) (by omega) near
  rw [h1]
  have ht := h.times k hk
  have hs : (m.got ((f + k) % 4294967296)).S = S := by rw [Tb.got_S, h.size]
  have hT := h.len
  refine ⟨fun hz => ?_, fun hz => ?_⟩
  · have hR : Rab (f1 l) (f2 l) a b k = false := by simpa using hz
    rw [hR] at ht
    have ht : T.getD k 0 = 0 := ht
    refine ⟨⟨ha', hb', hab', hba', by rw [e]; exact h2, hs, by simpa using hT, fun j hj => ?_⟩, ht⟩
    rw [set_getD T k _ j (by omega), e, ht]
    show (if j = k then 0 + 1 else T.getD j 0) = if (if j = k then true else Rab (f1 l) (f2 l) a b j) = true then 1 else 0
    by_cases ej : j = k
    · rw [if_pos ej, if_pos ej]
      rfl
    · rw [if_neg ej, if_neg ej]
      exact h.times j hj
  · have hR : Rab (f1 l) (f2 l) a b k = true := by simpa using hz
    refine ⟨ha', hb', hab', hba', by rw [e]; exact h2, hs, hT, fun j hj => ?_⟩
    rw [e]
    show T.getD j 0 = if (if j = k then true else Rab (f1 l) (f2 l) a b j) = true then 1 else 0
    by_cases ej : j = k
    · rw [if_pos ej, ej, ht, hR]
    · rw [if_neg ej]
      exact h.times j hj
theorem Sa.came1 (h : Sa f S n l a b m T) (hn' : n ≤ 100) (hn : a < n) (hs : a + 2 ≤ b + S) (hl : f1 l a = true) :
    (m.isNew ((f + a) % 4294967296) = true → Sa f S n l (a + 1) b (m.got ((f + a) % 4294967296)) (T.set a (T.getD a 0 + 1)) ∧ T.getD a 0 = 0) ∧ (m.isNew ((f + a) % 4294967296) = false → Sa f S n l (a + 1) b (m.got ((f + a) % 4294967296)) T) := by
  have hba := h.hba
  exact h.came hn' hn (.inl rfl) (by omega) h.hb (by omega) (by omega) (rab_yes1 hl)
theorem Sa.came2 (h : Sa f S n l a b m T) (hn' : n ≤ 100) (hn : b < n) (hs : b + 2 ≤ a + S) (hl : f2 l b = true) :
    (m.isNew ((f + b) % 4294967296) = true → Sa f S n l a (b + 1) (m.got ((f + b) % 4294967296)) (T.set b (T.getD b 0 + 1)) ∧ T.getD b 0 = 0) ∧ (m.isNew ((f + b) % 4294967296) = false → Sa f S n l a (b + 1) (m.got ((f + b) % 4294967296)) T) := by
  have hab := h.hab
  exact h.came hn' hn (.inr rfl) h.ha (by omega) (by omega) (by omega) (rab_yes2 hl)
theorem Sa.fin (h : Sa f S n l n n m T) {j : Nat} (hj : j < n) : T.getD j 0 = if bits .and .i64 (l.getD j 0) 3 == 3 then 0 else 1 := by
  rw [h.times j hj, f3]
  have : Rab (f1 l) (f2 l) n n j = (f1 l j || f2 l j) := by unfold Rab; simp [hj]
  rw [this]
  cases (f1 l j || f2 l j) <;> rfl
end
theorem run_madeI (n : Nat) (hn : n ≤ 1048576) (W : World) : (Instr.makeSlice 32 (.int .i64 (n : Int)) (.int .i64 (n : Int))).run Try.prog W = .ok (.slice (some ⟨W.heap.size, 0, none⟩) n n) (W.alloc (.cells ((List.replicate n 0).map (nv .i64)).toArray 3)) := by
  have hI : (Try.prog.info? 3).map (fun i => (i.zero, i.size, i.bytes)) = some (some (.int .i64 0), 1, 8) := by kernel_rfl
  obtain ⟨i0, hi, hz0, hz1, hz2⟩ := info_parts hI
  have h := run_make (P := Try.prog) W 32 3 i0 _ Try.underlying32 hi hz0 .i64 .i64 n n (by omega) (by omega) (by rw [hz2]; omega) (by omega)
  rw [hz1] at h
  have e : (madeCells #[.int .i64 0] n) = ((List.replicate n 0).map (nv .i64)).toArray := by
    apply Array.ext'
    rw [toList_madeCells_one, List.map_replicate]
    rfl
  rw [← e]
  simpa [Value.cells] using h
/-- the table at b, the counts at g -/
structure On (w v : World) (b g : Nat) (m : Tb) (T : List Nat) : Prop where
  one : One w v b m
  row : v.heap[g]? = some (.cells (T.map (nv .i64)).toArray 3 (0, 0))
  bg : b < g
section
variable {w v : World} {b g : Nat} {m : Tb} {T : List Nat}
theorem On.fresh (h : On w v b g m T) {n : Nat} (hn : n < 4294967296) : Calls Try.prog 11 #[.pointer (some ⟨b, 0, none⟩), .int .u32 (n : Int)] v fun e v' => e = .returned (.bool (m.isNew n)) ∧ On w v' b g (m.got n) T := by
  refine (h.one.fresh hn).mono ?_
  rintro e v' ⟨rfl, h1, on⟩
  have := h.bg
  exact ⟨rfl, h1, (on.block g (lt_of_block h.row) (by omega)).trans h.row, h.bg⟩
theorem On.cell (h : On w v b g m T) {j : Nat} (hj : j < T.length) : v.cell? ⟨g, j, none⟩ = some (.int .i64 ((T.getD j 0 : Nat) : Int)) := by
  rw [cell_of_row v g _ _ _ (0, 0) h.row, List.getElem?_toArray, List.getElem?_map, List.getElem?_eq_getElem hj]
  simp [nv, hj]
theorem On.frozen (h : On w v b g m T) (j : Nat) : v.frozen? ⟨g, j, none⟩ = false := frozen_of_row v g j _ _ h.row
theorem On.set (h : On w v b g m T) (j x : Nat) : On w (v.setCell ⟨g, j, none⟩ (.int .i64 (x : Int))) b g m (T.set j x) := by
  have hbg := h.bg
  have on : Only (fun k => k = g) v (v.setCell ⟨g, j, none⟩ (.int .i64 (x : Int))) := only_put (Only.refl _ v) j _
  refine ⟨⟨h.one.tab.only on (by omega), h.one.bel.trans (on.below (fun k hk => by have := h.one.base; omega) h.one.bel.size), h.one.base⟩, ?_, h.bg⟩
  rw [heap_setCell_same v g j _ _ _ h.row, List.setIfInBounds_toArray, List.map_set]
  rfl
end
end Go.Proofs.Ytfhlogkdmjdpdaa

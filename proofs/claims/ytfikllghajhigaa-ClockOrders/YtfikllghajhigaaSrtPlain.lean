/- Plain: rows as functions of the place; exchanges, rotations, merges of two sorted rows by rank. No condition. -/
import Derived.Test.YtfikllghajhigaaProg
namespace Go.Proofs.Ytfikllghajhigaa
set_option linter.unusedVariables false

section
variable {α : Type}
/-- f' is f with the places i and j exchanged -/
def Swp1 (i j : Nat) (f f' : Nat → α) : Prop := ∀ k, f' k = if k = j then f i else if k = i then f j else f k
/-- f' is f with the n places from a on and those from b on exchanged -/
def Swr (a b n : Nat) (f f' : Nat → α) : Prop := ∀ k, f' k = if a ≤ k ∧ k < a + n then f (b + (k - a)) else if b ≤ k ∧ k < b + n then f (a + (k - b)) else f k
/-- f' is f with what stands from a to m put behind what stands from m to b -/
def Rot (a m b : Nat) (f f' : Nat → α) : Prop := ∀ k, f' k = if a ≤ k ∧ k < b then (if k < a + (b - m) then f (k + (m - a)) else f (k - (b - m))) else f k
/-- from a to b the same stands in another order; else nothing has turned -/
structure Same (a b : Nat) (f f' : Nat → α) : Prop where
  out : ∀ k, ¬ (a ≤ k ∧ k < b) → f' k = f k
  fwd : ∀ k, a ≤ k → k < b → ∃ j, a ≤ j ∧ j < b ∧ f' k = f j
  bwd : ∀ k, a ≤ k → k < b → ∃ j, a ≤ j ∧ j < b ∧ f k = f' j

variable {a b m i j n : Nat} {f f' g g' : Nat → α}
theorem Same.refl (a b : Nat) (f : Nat → α) : Same a b f f := ⟨fun _ _ => rfl, fun k h1 h2 => ⟨k, h1, h2, rfl⟩, fun k h1 h2 => ⟨k, h1, h2, rfl⟩⟩
theorem Same.trans (h : Same a b f g) (h' : Same a b g g') : Same a b f g' where
  out k hk := (h'.out k hk).trans (h.out k hk)
  fwd k h1 h2 := by
    obtain ⟨j, h3, h4, e⟩ := h'.fwd k h1 h2
    obtain ⟨l, h5, h6, e'⟩ := h.fwd j h3 h4
    exact ⟨l, h5, h6, e.trans e'⟩
  bwd k h1 h2 := by
    obtain ⟨j, h3, h4, e⟩ := h.bwd k h1 h2
    obtain ⟨l, h5, h6, e'⟩ := h'.bwd j h3 h4
    exact ⟨l, h5, h6, e.trans e'⟩
theorem Same.mono {a' b' : Nat} (h : Same a b f g) (ha : a' ≤ a) (hb : b ≤ b') : Same a' b' f g where
  out k hk := h.out k (by omega)
  fwd k h1 h2 := by
    by_cases hk : a ≤ k ∧ k < b
    · obtain ⟨j, h3, h4, e⟩ := h.fwd k hk.1 hk.2
      exact ⟨j, by omega, by omega, e⟩
    · exact ⟨k, h1, h2, h.out k hk⟩
  bwd k h1 h2 := by
    by_cases hk : a ≤ k ∧ k < b
    · obtain ⟨j, h3, h4, e⟩ := h.bwd k hk.1 hk.2
      exact ⟨j, by omega, by omega, e⟩
    · exact ⟨k, h1, h2, (h.out k hk).symm⟩
theorem Rot.same (h : Rot a m b f f') (h1 : a ≤ m) (h2 : m ≤ b) : Same a b f f' where
  out k hk := by rw [h k, if_neg hk]
  fwd k h3 h4 := by
    rw [h k, if_pos ⟨h3, h4⟩]
    split
    · exact ⟨_, by omega, by omega, rfl⟩
    · exact ⟨_, by omega, by omega, rfl⟩
  bwd k h3 h4 := by
    by_cases hk : k < m
    · refine ⟨k + (b - m), by omega, by omega, ?_⟩
      rw [h, if_pos (by omega), if_neg (by omega)]
      exact congrArg f (by omega)
    · refine ⟨k - (m - a), by omega, by omega, ?_⟩
      rw [h, if_pos (by omega), if_pos (by omega)]
      exact congrArg f (by omega)
theorem Rot.none (h : a = m ∨ m = b) (f : Nat → α) : Rot a m b f f := fun k => by
  split
  · split
    · exact congrArg f (by omega)
    · exact congrArg f (by omega)
  · rfl
/-- the exchange of two rows, place by place -/
theorem Swr.zero (a b : Nat) (f : Nat → α) : Swr a b 0 f f := fun k => by rw [if_neg (by omega), if_neg (by omega)]
theorem Swr.step (h : Swr a b i f g) (hs : Swp1 (a + i) (b + i) g g') (hd : a + i < b) : Swr a b (i + 1) f g' := fun k => by
  rw [hs k]
  repeat' split
  all_goals first | (rw [h]; repeat' split) | skip
  all_goals first | rfl | omega | exact congrArg f (by omega)
/-- a rotation by exchanges: the three steps -/
theorem Rot.more (hs : Swr (m - i) m j f g) (h : Rot (m - (i - j)) m (m + j) g g') (hij : j < i) (him : i ≤ m) : Rot (m - i) m (m + j) f g' := fun k => by
  rw [h k]
  repeat' split
  all_goals first | (rw [hs]; repeat' split) | skip
  all_goals first | rfl | omega | exact congrArg f (by omega)
theorem Rot.less (hs : Swr (m - i) (m + j - i) i f g) (h : Rot (m - i) m (m + (j - i)) g g') (hij : i < j) (him : i ≤ m) : Rot (m - i) m (m + j) f g' := fun k => by
  rw [h k]
  repeat' split
  all_goals first | (rw [hs]; repeat' split) | skip
  all_goals first | rfl | omega | exact congrArg f (by omega)
theorem Rot.last (hs : Swr (m - i) m i f g) (him : i ≤ m) : Rot (m - i) m (m + i) f g := fun k => by
  rw [hs k]
  by_cases h1 : m - i ≤ k ∧ k < m - i + i
  · rw [if_pos h1, if_pos (by omega), if_pos (by omega)]
    exact congrArg f (by omega)
  · rw [if_neg h1]
    by_cases h2 : m ≤ k ∧ k < m + i
    · rw [if_pos h2, if_pos (by omega), if_neg (by omega)]
      exact congrArg f (by omega)
    · rw [if_neg h2, if_neg (by omega)]
/-- one element goes down, up, by one place -/
theorem Rot.down (h : Rot j m (m + 1) f g) (hs : Swp1 j (j - 1) g g') (h1 : 1 ≤ j) (h2 : j ≤ m) : Rot (j - 1) m (m + 1) f g' := fun k => by
  rw [hs k]
  by_cases e1 : k = j - 1
  · subst e1
    rw [if_pos rfl, h, if_pos (by omega), if_pos (by omega), if_pos (by omega), if_pos (by omega)]
    exact congrArg f (by omega)
  · rw [if_neg e1]
    by_cases e2 : k = j
    · subst e2
      rw [if_pos rfl, h, if_neg (by omega), if_pos (by omega), if_neg (by omega)]
      exact congrArg f (by omega)
    · rw [if_neg e2, h k]
      by_cases e3 : j ≤ k ∧ k < m + 1
      · rw [if_pos e3, if_neg (by omega), if_pos (by omega), if_neg (by omega)]
      · rw [if_neg e3, if_neg (by omega)]
theorem Rot.up (h : Rot a (a + 1) (j + 1) f g) (hs : Swp1 j (j + 1) g g') (h1 : a ≤ j) : Rot a (a + 1) (j + 2) f g' := fun k => by
  rw [hs k]
  by_cases e1 : k = j + 1
  · subst e1
    rw [if_pos rfl, h, if_pos (by omega), if_neg (by omega), if_pos (by omega), if_neg (by omega)]
    exact congrArg f (by omega)
  · rw [if_neg e1]
    by_cases e2 : k = j
    · subst e2
      rw [if_pos rfl, h, if_neg (by omega), if_pos (by omega), if_pos (by omega)]
      exact congrArg f (by omega)
    · rw [if_neg e2, h k]
      by_cases e3 : a ≤ k ∧ k < j + 1
      · rw [if_pos e3, if_pos (by omega), if_pos (by omega), if_pos (by omega)]
      · rw [if_neg e3, if_neg (by omega)]
/-- what a rotation of one element leaves where it was -/
theorem Rot.at_ (h : Rot j m (m + 1) f g) (h2 : j ≤ m) : g j = f m := by
  rw [h, if_pos (by omega), if_pos (by omega)]
  exact congrArg f (by omega)
theorem Rot.under (h : Rot a m b f g) {k : Nat} (hk : k < a) : g k = f k := by rw [h, if_neg (by omega)]

/-! ranks -/
variable (r : α → Nat)
/-- from a to b the ranks rise -/
def Srt (a b : Nat) (f : Nat → α) : Prop := ∀ i j, a ≤ i → i < j → j < b → r (f i) < r (f j)
/-- whatever stands from a to m has a lower rank than whatever stands from m to b -/
def Crs (a m b : Nat) (f : Nat → α) : Prop := ∀ i j, a ≤ i → i < m → m ≤ j → j < b → r (f i) < r (f j)
variable {r}
theorem Srt.le (h : Srt r a b f) (h1 : a ≤ i) (h2 : i ≤ j) (h3 : j < b) : r (f i) ≤ r (f j) := by
  rcases Nat.lt_or_eq_of_le h2 with h4 | rfl
  · exact Nat.le_of_lt (h i j h1 h4 h3)
  · exact Nat.le_refl _
theorem Srt.glue (h1 : Srt r a m f) (h2 : Srt r m b f) (h3 : Crs r a m b f) : Srt r a b f := fun i j hi hij hj => by
  by_cases h4 : j < m
  · exact h1 i j hi hij h4
  · by_cases h5 : i < m
    · exact h3 i j hi h5 (by omega) hj
    · exact h2 i j (by omega) hij hj
/-- one element in its place: the last, the first -/
theorem Srt.insert (S : Srt r a m f) (R : Rot i m (m + 1) f g) (h1 : a ≤ i) (h2 : i ≤ m) (hL : i = a ∨ r (f (i - 1)) < r (f m)) (hU : i = m ∨ r (f m) < r (f i)) : Srt r a (m + 1) g := fun p q hp hpq hq => by
  have at1 : ∀ k, k < i → g k = f k := fun k hk => R.under hk
  have at3 : ∀ k, i < k → k < m + 1 → g k = f (k - 1) := fun k h3 h4 => by
    rw [R k, if_pos (by omega), if_neg (by omega)]
    exact congrArg f (by omega)
  have at2 := R.at_ h2
  by_cases hqi : q < i
  · rw [at1 p (by omega), at1 q hqi]
    exact S p q hp hpq (by omega)
  · by_cases hqe : q = i
    · subst hqe
      rw [at2, at1 p hpq]
      rcases hL with hL | hL
      · omega
      · exact Nat.lt_of_le_of_lt (S.le (j := q - 1) hp (by omega) (by omega)) hL
    · rw [at3 q (by omega) hq]
      by_cases hpi : p < i
      · rw [at1 p hpi]
        exact S p (q - 1) hp (by omega) (by omega)
      · by_cases hpe : p = i
        · subst hpe
          rw [at2]
          rcases hU with hU | hU
          · omega
          · exact Nat.lt_of_lt_of_le hU (S.le (by omega) (by omega) (by omega))
        · rw [at3 p (by omega) (by omega)]
          exact S (p - 1) (q - 1) (by omega) (by omega) (by omega)
theorem Srt.insert0 (S : Srt r (a + 1) b f) (R : Rot a (a + 1) i f g) (h1 : a + 1 ≤ i) (h2 : i ≤ b) (hL : i = a + 1 ∨ r (f (i - 1)) < r (f a)) (hU : i = b ∨ r (f a) < r (f i)) : Srt r a b g := fun p q hp hpq hq => by
  have at1 : ∀ k, a ≤ k → k + 1 < i → g k = f (k + 1) := fun k h3 h4 => by
    rw [R k, if_pos (by omega), if_pos (by omega)]
    exact congrArg f (by omega)
  have at2 : g (i - 1) = f a := by
    rw [R, if_pos (by omega), if_neg (by omega)]
    exact congrArg f (by omega)
  have at3 : ∀ k, i ≤ k → g k = f k := fun k hk => by rw [R k, if_neg (by omega)]
  by_cases hqi : q + 1 < i
  · rw [at1 p hp (by omega), at1 q (by omega) hqi]
    exact S (p + 1) (q + 1) (by omega) (by omega) (by omega)
  · by_cases hqe : q + 1 = i
    · have e : q = i - 1 := by omega
      rw [e, at2, at1 p hp (by omega)]
      rcases hL with hL | hL
      · omega
      · exact Nat.lt_of_le_of_lt (S.le (j := i - 1) (by omega) (by omega) (by omega)) hL
    · rw [at3 q (by omega)]
      by_cases hpi : p + 1 < i
      · rw [at1 p hp hpi]
        exact S (p + 1) q (by omega) (by omega) (by omega)
      · by_cases hpe : p + 1 = i
        · have e : p = i - 1 := by omega
          rw [e, at2]
          rcases hU with hU | hU
          · omega
          · exact Nat.lt_of_lt_of_le hU (S.le (by omega) (by omega) (by omega))
        · rw [at3 p (by omega)]
          exact S p q (by omega) (by omega) (by omega)

/-! a merge's middle step -/
variable {s e mid : Nat}
theorem Rot.parts (R : Rot s m e f g) (h1 : s ≤ m) (h2 : m ≤ e) (hmid : mid = s + (e - m)) :
    (∀ k, k < s → g k = f k) ∧ (∀ k, s ≤ k → k < mid → g k = f (k + (m - s))) ∧ (∀ k, mid ≤ k → k < e → g k = f (k - (e - m))) ∧ (∀ k, e ≤ k → g k = f k) := by
  subst hmid
  refine ⟨fun k hk => by rw [R k, if_neg (by omega)], fun k h3 h4 => by rw [R k, if_pos (by omega), if_pos h4], fun k h3 h4 => by rw [R k, if_pos (by omega), if_neg (by omega)], fun k hk => by rw [R k, if_neg (by omega)]⟩
theorem Crs.split (S1 : Srt r a m f) (S2 : Srt r m b f) (R : Rot s m e f g) (h1 : s ≤ m) (h2 : m ≤ e) (hmid : mid = s + (e - m)) (h3 : a ≤ s) (h4 : e ≤ b)
    (hL : s = a ∨ e = b ∨ r (f (s - 1)) < r (f e)) (hU : s = m ∨ e = m ∨ r (f (e - 1)) < r (f s)) : Crs r a mid b g := fun i j hi him hmj hj => by
  obtain ⟨p1, p2, p3, p4⟩ := R.parts h1 h2 hmid
  by_cases hi1 : i < s
  · rw [p1 i hi1]
    by_cases hj1 : j < e
    · rw [p3 j hmj hj1]
      exact S1 _ _ hi (by omega) (by omega)
    · rw [p4 j (by omega)]
      rcases hL with hL | hL | hL
      · omega
      · omega
      · exact Nat.lt_of_le_of_lt (S1.le (j := s - 1) hi (by omega) (by omega)) (Nat.lt_of_lt_of_le hL (S2.le h2 (by omega) hj))
  · rw [p2 i (by omega) him]
    by_cases hj1 : j < e
    · rw [p3 j hmj hj1]
      rcases hU with hU | hU | hU
      · omega
      · omega
      · exact Nat.lt_of_le_of_lt (S2.le (j := e - 1) (by omega) (by omega) (by omega)) (Nat.lt_of_lt_of_le hU (S1.le h3 (by omega) (by omega)))
    · rw [p4 j (by omega)]
      exact S2 _ _ (by omega) (by omega) hj
theorem Rot.srts (S1 : Srt r a m f) (S2 : Srt r m b f) (R : Rot s m e f g) (h1 : s ≤ m) (h2 : m ≤ e) (hmid : mid = s + (e - m)) (h3 : a ≤ s) (h4 : e ≤ b) :
    Srt r a s g ∧ Srt r s mid g ∧ Srt r mid e g ∧ Srt r e b g := by
  obtain ⟨p1, p2, p3, p4⟩ := R.parts h1 h2 hmid
  refine ⟨fun i j hi hij hj => ?_, fun i j hi hij hj => ?_, fun i j hi hij hj => ?_, fun i j hi hij hj => ?_⟩
  · rw [p1 i (by omega), p1 j hj]; exact S1 i j hi hij (by omega)
  · rw [p2 i hi (by omega), p2 j (by omega) hj]; exact S2 _ _ (by omega) (by omega) (by omega)
  · rw [p3 i hi (by omega), p3 j (by omega) hj]; exact S1 _ _ (by omega) (by omega) (by omega)
  · rw [p4 i hi, p4 j (by omega)]; exact S2 i j (by omega) hij hj
theorem Rot.crss (C : Crs r a m b f) (R : Rot s m e f g) (h1 : s ≤ m) (h2 : m ≤ e) (hmid : mid = s + (e - m)) (h3 : a ≤ s) (h4 : e ≤ b) :
    Crs r a s mid g ∧ Crs r mid e b g := by
  obtain ⟨p1, p2, p3, p4⟩ := R.parts h1 h2 hmid
  refine ⟨fun i j hi him hmj hj => ?_, fun i j hi him hmj hj => ?_⟩
  · rw [p1 i him, p2 j hmj hj]; exact C _ _ hi (by omega) (by omega) (by omega)
  · rw [p3 i hi him, p4 j hmj]; exact C _ _ (by omega) (by omega) (by omega) hj
theorem Srt.same (h : Srt r a b f) (e : ∀ k, a ≤ k → k < b → g k = f k) : Srt r a b g := fun i j hi hij hj => by
  rw [e i hi (by omega), e j (by omega) hj]; exact h i j hi hij hj
theorem Crs.same (h : Crs r a m b f) (h1 : Same a m f g) (h2 : Same m b g g') : Crs r a m b g' := fun i j hi him hmj hj => by
  rw [h2.out i (by omega)]
  obtain ⟨i', h3, h4, e1⟩ := h1.fwd i hi him
  obtain ⟨j', h5, h6, e2⟩ := h2.fwd j hmj hj
  rw [e1, e2, h1.out j' (by omega)]
  exact h i' j' h3 h4 h5 h6
theorem Crs.eq (h : Crs r a m b f) (e : ∀ k, a ≤ k → k < b → g k = f k) : Crs r a m b g := fun i j hi him hmj hj => by
  rw [e i hi (by omega), e j (by omega) hj]; exact h i j hi him hmj hj
end
theorem merge_end {α : Type} {r : α → Nat} {a m b s e mid : Nat} {f f2 f3 f4 : Nat → α} (S1 : Srt r a m f) (S2 : Srt r m b f) (R : Rot s m e f f2) (h1 : s ≤ m) (h2 : m ≤ e) (hmid : mid = s + (e - m)) (h3 : a ≤ s) (h4 : e ≤ b)
    (hL : s = a ∨ e = b ∨ r (f (s - 1)) < r (f e)) (hU : s = m ∨ e = m ∨ r (f (e - 1)) < r (f s))
    (M3 : Same a mid f2 f3) (T3 : Srt r a mid f3) (M4 : Same mid b f3 f4) (T4 : Srt r mid b f4) : Srt r a b f4 ∧ Same a b f f4 := by
  have C := (Crs.split S1 S2 R h1 h2 hmid h3 h4 hL hU).same M3 M4
  refine ⟨Srt.glue (T3.same fun k h5 h6 => M4.out k (by omega)) T4 C, ?_⟩
  exact ((R.same h1 h2).mono h3 h4).trans ((M3.mono (Nat.le_refl _) (by omega)).trans (M4.mono (by omega) (Nat.le_refl _)))
end Go.Proofs.Ytfikllghajhigaa

/- Plain mathematics of bits: of bytes and back, stuffed and unstuffed. No condition. -/
import Derived.Test.YtkiofgbfalihoaaRows
namespace Go.Proofs.Ytkiofgbfalihoaa.Bit
set_option linter.unusedVariables false

/-- the bit as which c counts -/
def one (c : UInt8) : UInt8 := if c = 0 then 0 else 1
theorem one_zero {c : UInt8} (h : c = 0) : one c = 0 := by unfold one; rw [if_pos h]
theorem one_one {c : UInt8} (h : c ≠ 0) : one c = 1 := by unfold one; rw [if_neg h]
theorem one_le (c : UInt8) : one c = 0 ∨ one c = 1 := by
  by_cases h : c = 0
  · exact .inl (one_zero h)
  · exact .inr (one_one h)

/-- stuffed, n ones standing behind -/
def stuff : Nat → List UInt8 → List UInt8
  | _, [] => []
  | n, c :: r => if c = 0 then 0 :: stuff 0 r else if n = 4 then 1 :: 0 :: stuff 0 r else 1 :: stuff (n + 1) r

theorem stuff_zero {n : Nat} {l acc s : List UInt8} {k : Nat} (hk : k < l.length) (h : l[k] = 0) (hs : acc ++ stuff n (l.drop k) = s) : (acc ++ [0]) ++ stuff 0 (l.drop (k + 1)) = s := by
  rw [List.drop_eq_getElem_cons hk, stuff, if_pos h] at hs
  rw [← hs]
  simp
theorem stuff_five {n : Nat} {l acc s : List UInt8} {k : Nat} (hk : k < l.length) (h : l[k] ≠ 0) (hn : n = 4) (hs : acc ++ stuff n (l.drop k) = s) : (acc ++ [1]) ++ [0] ++ stuff 0 (l.drop (k + 1)) = s := by
  rw [List.drop_eq_getElem_cons hk, stuff, if_neg h, if_pos hn] at hs
  rw [← hs]
  simp
theorem stuff_more {n : Nat} {l acc s : List UInt8} {k : Nat} (hk : k < l.length) (h : l[k] ≠ 0) (hn : n ≠ 4) (hs : acc ++ stuff n (l.drop k) = s) : (acc ++ [1]) ++ stuff (n + 1) (l.drop (k + 1)) = s := by
  rw [List.drop_eq_getElem_cons hk, stuff, if_neg h, if_neg hn] at hs
  rw [← hs]
  simp
theorem stuff_end {n : Nat} {l acc s : List UInt8} {k : Nat} (hk : l.length ≤ k) (hs : acc ++ stuff n (l.drop k) = s) : acc = s := by
  rw [List.drop_eq_nil_of_le hk] at hs
  simpa [stuff] using hs

theorem stuff_len (l : List UInt8) : ∀ n, n ≤ 4 → l.length ≤ (stuff n l).length ∧ (stuff n l).length ≤ l.length + (l.length + n) / 5 := by
  induction l with
  | nil => intro n hn; simp [stuff]
  | cons c r ih =>
    intro n hn
    unfold stuff
    by_cases h : c = 0
    · rw [if_pos h]
      have := ih 0 (by omega)
      simp only [List.length_cons]
      omega
    · rw [if_neg h]
      by_cases h4 : n = 4
      · rw [if_pos h4]
        have := ih 0 (by omega)
        simp only [List.length_cons]
        omega
      · rw [if_neg h4]
        have := ih (n + 1) (by omega)
        simp only [List.length_cons]
        omega

/-- n ones behind, six of them never come to stand side by side, and all are bits -/
def calm : Nat → List UInt8 → Prop
  | _, [] => True
  | n, c :: r => (c = 0 ∧ calm 0 r) ∨ (c = 1 ∧ n < 5 ∧ calm (n + 1) r)
theorem stuff_calm (l : List UInt8) : ∀ n, n ≤ 4 → calm n (stuff n l) := by
  induction l with
  | nil => intro n hn; simp [stuff, calm]
  | cons c r ih =>
    intro n hn
    unfold stuff
    by_cases h : c = 0
    · rw [if_pos h]
      exact .inl ⟨rfl, ih 0 (by omega)⟩
    · rw [if_neg h]
      by_cases h4 : n = 4
      · rw [if_pos h4]
        exact .inr ⟨rfl, by omega, .inl ⟨rfl, ih 0 (by omega)⟩⟩
      · rw [if_neg h4]
        exact .inr ⟨rfl, by omega, ih (n + 1) (by omega)⟩
theorem calm_at {n : Nat} {s : List UInt8} {k : Nat} (hk : k < s.length) (h : calm n (s.drop k)) : (s[k] = 0 ∧ calm 0 (s.drop (k + 1))) ∨ (s[k] = 1 ∧ n < 5 ∧ calm (n + 1) (s.drop (k + 1))) := by
  rw [List.drop_eq_getElem_cons hk] at h
  exact h

/-- unstuffed, n ones and acc standing behind -/
def un : Nat → List UInt8 → List UInt8 → List UInt8 × Int
  | n, acc, [] => if n = 5 then ([], 3) else (acc, 0)
  | n, acc, c :: r => if n = 5 then (if c = 0 then un 0 acc r else ([], 4)) else if c = 0 then un 0 (acc ++ [0]) r else un (n + 1) (acc ++ [1]) r

theorem un_end5 {n : Nat} {l acc : List UInt8} {r : List UInt8 × Int} {k : Nat} (hk : l.length ≤ k) (hn : n = 5) (hs : un n acc (l.drop k) = r) : r = ([], 3) := by
  rw [List.drop_eq_nil_of_le hk, un, if_pos hn] at hs
  exact hs.symm
theorem un_end {n : Nat} {l acc : List UInt8} {r : List UInt8 × Int} {k : Nat} (hk : l.length ≤ k) (hn : n ≠ 5) (hs : un n acc (l.drop k) = r) : r = (acc, 0) := by
  rw [List.drop_eq_nil_of_le hk, un, if_neg hn] at hs
  exact hs.symm
theorem un_abort {n : Nat} {l acc : List UInt8} {r : List UInt8 × Int} {k : Nat} (hk : k < l.length) (hn : n = 5) (h : l[k] ≠ 0) (hs : un n acc (l.drop k) = r) : r = ([], 4) := by
  rw [List.drop_eq_getElem_cons hk, un, if_pos hn, if_neg h] at hs
  exact hs.symm
theorem un_skip {n : Nat} {l acc : List UInt8} {r : List UInt8 × Int} {k : Nat} (hk : k < l.length) (hn : n = 5) (h : l[k] = 0) (hs : un n acc (l.drop k) = r) : un 0 acc (l.drop (k + 1)) = r := by
  rw [List.drop_eq_getElem_cons hk, un, if_pos hn, if_pos h] at hs
  exact hs
theorem un_zero {n : Nat} {l acc : List UInt8} {r : List UInt8 × Int} {k : Nat} (hk : k < l.length) (hn : n ≠ 5) (h : l[k] = 0) (hs : un n acc (l.drop k) = r) : un 0 (acc ++ [0]) (l.drop (k + 1)) = r := by
  rw [List.drop_eq_getElem_cons hk, un, if_neg hn, if_pos h] at hs
  exact hs
theorem un_more {n : Nat} {l acc : List UInt8} {r : List UInt8 × Int} {k : Nat} (hk : k < l.length) (hn : n ≠ 5) (h : l[k] ≠ 0) (hs : un n acc (l.drop k) = r) : un (n + 1) (acc ++ [1]) (l.drop (k + 1)) = r := by
  rw [List.drop_eq_getElem_cons hk, un, if_neg hn, if_neg h] at hs
  exact hs

/-- what is stuffed comes back, whatever follows -/
theorem un_stuff (l r : List UInt8) : ∀ n acc, n ≤ 4 → ∃ m, m ≤ 4 ∧ un n acc (stuff n l ++ r) = un m (acc ++ l.map one) r := by
  induction l with
  | nil => intro n acc hn; exact ⟨n, hn, by simp [stuff]⟩
  | cons c t ih =>
    intro n acc hn
    unfold stuff
    by_cases h : c = 0
    · obtain ⟨m, hm, e⟩ := ih 0 (acc ++ [0]) (by omega)
      refine ⟨m, hm, ?_⟩
      rw [if_pos h, List.cons_append, un, if_neg (by omega), if_pos rfl, e, List.map_cons, one_zero h]
      simp
    · rw [if_neg h]
      by_cases h4 : n = 4
      · obtain ⟨m, hm, e⟩ := ih 0 (acc ++ [1]) (by omega)
        refine ⟨m, hm, ?_⟩
        rw [if_pos h4, List.cons_append, un, if_neg (by omega), if_neg (by decide), List.cons_append, un, if_pos (by omega), if_pos rfl, e, List.map_cons, one_one h]
        simp
      · obtain ⟨m, hm, e⟩ := ih (n + 1) (acc ++ [1]) (by omega)
        refine ⟨m, hm, ?_⟩
        rw [if_neg h4, List.cons_append, un, if_neg (by omega), if_neg (by decide), e, List.map_cons, one_one h]
        simp
theorem un_stuff_all (l : List UInt8) : un 0 [] (stuff 0 l) = (l.map one, 0) := by
  obtain ⟨m, hm, e⟩ := un_stuff l [] 0 [] (by omega)
  rw [List.append_nil] at e
  rw [e, un, if_neg (by omega), List.nil_append]
theorem un_aborts (a b : List UInt8) : un 0 [] (stuff 0 a ++ [0, 1, 1, 1, 1, 1, 1, 1] ++ b) = ([], 4) := by
  rw [List.append_assoc]
  obtain ⟨m, hm, e⟩ := un_stuff a ([0, 1, 1, 1, 1, 1, 1, 1] ++ b) 0 [] (by omega)
  rw [e]
  have : m ≠ 5 := by omega
  simp [un, this]

/-- the bit t of c -/
def bit (c : UInt8) (t : Nat) : UInt8 := UInt8.ofNat (c.toNat / 2 ^ t % 2)
theorem bit_one (c : UInt8) (t : Nat) : one (bit c t) = bit c t := by
  unfold bit
  rcases Nat.mod_two_eq_zero_or_one (c.toNat / 2 ^ t) with h | h <;> rw [h] <;> decide
/-- the first m bits of the bytes b -/
def ofN (b : List UInt8) (m : Nat) : List UInt8 := (List.range m).map fun i => bit (b.getD (i / 8) 0) (i % 8)
def of (b : List UInt8) : List UInt8 := ofN b (8 * b.length)
theorem ofN_len (b : List UInt8) (m : Nat) : (ofN b m).length = m := by simp [ofN]
theorem of_len (b : List UInt8) : (of b).length = 8 * b.length := ofN_len _ _
theorem ofN_succ (b : List UInt8) (i j : Nat) (hj : j < 8) : ofN b (8 * i + (j + 1)) = ofN b (8 * i + j) ++ [bit (b.getD i 0) j] := by
  unfold ofN
  rw [← Nat.add_assoc, List.range_succ, List.map_append, List.map_singleton, show (8 * i + j) / 8 = i by omega, show (8 * i + j) % 8 = j by omega]
theorem of_one (b : List UInt8) : (of b).map one = of b := by
  unfold of ofN
  rw [List.map_map]
  exact List.map_congr_left fun i _ => bit_one _ _
theorem ofN_getD (b : List UInt8) (m i : Nat) (h : i < m) : (ofN b m).getD i 0 = bit (b.getD (i / 8) 0) (i % 8) := by
  simp [ofN, h]

/-- c as the bit t of a byte -/
def sh (c : UInt8) (t : Nat) : UInt8 := one c <<< UInt8.ofNat t
theorem sh_zero (t : Nat) : sh 0 t = 0 := by unfold sh one; rw [if_pos rfl]; simp
/-- the byte j of the bits l -/
def byteAt (l : List UInt8) (j : Nat) : UInt8 :=
  sh (l.getD (8 * j) 0) 0 ||| sh (l.getD (8 * j + 1) 0) 1 ||| sh (l.getD (8 * j + 2) 0) 2 ||| sh (l.getD (8 * j + 3) 0) 3 ||| sh (l.getD (8 * j + 4) 0) 4 ||| sh (l.getD (8 * j + 5) 0) 5 ||| sh (l.getD (8 * j + 6) 0) 6 ||| sh (l.getD (8 * j + 7) 0) 7
def packN (m : Nat) (l : List UInt8) : List UInt8 := (List.range m).map (byteAt l)
theorem packN_len (m : Nat) (l : List UInt8) : (packN m l).length = m := by simp [packN]
theorem packN_getD (m : Nat) (l : List UInt8) (j : Nat) (h : j < m) : (packN m l).getD j 0 = byteAt l j := by simp [packN, h]
theorem take_in (l : List UInt8) (k i : Nat) (h : i < k) : (l.take k).getD i 0 = l.getD i 0 := by simp [h]
theorem take_out (l : List UInt8) (k i : Nat) (h : k ≤ i) : (l.take k).getD i 0 = 0 := by
  rw [List.getD_eq_getElem?_getD, List.getElem?_eq_none (by simp; omega)]
  rfl
theorem byteAt_out (l : List UInt8) (k j : Nat) (h : k ≤ 8 * j) : byteAt (l.take k) j = 0 := by
  unfold byteAt
  rw [take_out _ _ _ (by omega), take_out _ _ _ (by omega), take_out _ _ _ (by omega), take_out _ _ _ (by omega), take_out _ _ _ (by omega), take_out _ _ _ (by omega), take_out _ _ _ (by omega), take_out _ _ _ (by omega)]
  simp [sh_zero]
theorem byteAt_other (l : List UInt8) (k j : Nat) (h : j ≠ k / 8) : byteAt (l.take (k + 1)) j = byteAt (l.take k) j := by
  have key : ∀ t, t < 8 → (l.take (k + 1)).getD (8 * j + t) 0 = (l.take k).getD (8 * j + t) 0 := by
    intro t ht
    rcases Nat.lt_or_ge (8 * j + t) k with hh | hh
    · rw [take_in _ _ _ (by omega), take_in _ _ _ (by omega)]
    · rw [take_out _ _ _ (by omega), take_out _ _ _ (by omega)]
  unfold byteAt
  rw [key 1 (by omega), key 2 (by omega), key 3 (by omega), key 4 (by omega), key 5 (by omega), key 6 (by omega), key 7 (by omega)]
  have h0 : (l.take (k + 1)).getD (8 * j) 0 = (l.take k).getD (8 * j) 0 := key 0 (by omega)
  rw [h0]
theorem byteAt_step (l : List UInt8) (j t : Nat) (ht : t < 8) : byteAt (l.take (8 * j + t + 1)) j = byteAt (l.take (8 * j + t)) j ||| sh (l.getD (8 * j + t) 0) t := by
  have i1 : ∀ s k, 8 * j + s < k → (l.take k).getD (8 * j + s) 0 = l.getD (8 * j + s) 0 := fun s k h => take_in _ _ _ h
  have o1 : ∀ s k, k ≤ 8 * j + s → (l.take k).getD (8 * j + s) 0 = 0 := fun s k h => take_out _ _ _ h
  have i0 : ∀ k, 8 * j < k → (l.take k).getD (8 * j) 0 = l.getD (8 * j) 0 := fun k h => take_in _ _ _ h
  have o0 : ∀ k, k ≤ 8 * j → (l.take k).getD (8 * j) 0 = 0 := fun k h => take_out _ _ _ h
  unfold byteAt
  match t, ht with
  | 0, _ => rw [i0 _ (by omega), o1 1 _ (by omega), o1 2 _ (by omega), o1 3 _ (by omega), o1 4 _ (by omega), o1 5 _ (by omega), o1 6 _ (by omega), o1 7 _ (by omega), o0 _ (by omega), o1 1 _ (by omega), o1 2 _ (by omega), o1 3 _ (by omega), o1 4 _ (by omega), o1 5 _ (by omega), o1 6 _ (by omega), o1 7 _ (by omega)]; simp [sh_zero]
  | 1, _ => rw [i0 _ (by omega), i1 1 _ (by omega), o1 2 _ (by omega), o1 3 _ (by omega), o1 4 _ (by omega), o1 5 _ (by omega), o1 6 _ (by omega), o1 7 _ (by omega), i0 _ (by omega), o1 1 _ (by omega), o1 2 _ (by omega), o1 3 _ (by omega), o1 4 _ (by omega), o1 5 _ (by omega), o1 6 _ (by omega), o1 7 _ (by omega)]; simp [sh_zero]
  | 2, _ => rw [i0 _ (by omega), i1 1 _ (by omega), i1 2 _ (by omega), o1 3 _ (by omega), o1 4 _ (by omega), o1 5 _ (by omega), o1 6 _ (by omega), o1 7 _ (by omega), i0 _ (by omega), i1 1 _ (by omega), o1 2 _ (by omega), o1 3 _ (by omega), o1 4 _ (by omega), o1 5 _ (by omega), o1 6 _ (by omega), o1 7 _ (by omega)]; simp [sh_zero]
  | 3, _ => rw [i0 _ (by omega), i1 1 _ (by omega), i1 2 _ (by omega), i1 3 _ (by omega), o1 4 _ (by omega), o1 5 _ (by omega), o1 6 _ (by omega), o1 7 _ (by omega), i0 _ (by omega), i1 1 _ (by omega), i1 2 _ (by omega), o1 3 _ (by omega), o1 4 _ (by omega), o1 5 _ (by omega), o1 6 _ (by omega), o1 7 _ (by omega)]; simp [sh_zero]
  | 4, _ => rw [i0 _ (by omega), i1 1 _ (by omega), i1 2 _ (by omega), i1 3 _ (by omega), i1 4 _ (by omega), o1 5 _ (by omega), o1 6 _ (by omega), o1 7 _ (by omega), i0 _ (by omega), i1 1 _ (by omega), i1 2 _ (by omega), i1 3 _ (by omega), o1 4 _ (by omega), o1 5 _ (by omega), o1 6 _ (by omega), o1 7 _ (by omega)]; simp [sh_zero]
  | 5, _ => rw [i0 _ (by omega), i1 1 _ (by omega), i1 2 _ (by omega), i1 3 _ (by omega), i1 4 _ (by omega), i1 5 _ (by omega), o1 6 _ (by omega), o1 7 _ (by omega), i0 _ (by omega), i1 1 _ (by omega), i1 2 _ (by omega), i1 3 _ (by omega), i1 4 _ (by omega), o1 5 _ (by omega), o1 6 _ (by omega), o1 7 _ (by omega)]; simp [sh_zero]
  | 6, _ => rw [i0 _ (by omega), i1 1 _ (by omega), i1 2 _ (by omega), i1 3 _ (by omega), i1 4 _ (by omega), i1 5 _ (by omega), i1 6 _ (by omega), o1 7 _ (by omega), i0 _ (by omega), i1 1 _ (by omega), i1 2 _ (by omega), i1 3 _ (by omega), i1 4 _ (by omega), i1 5 _ (by omega), o1 6 _ (by omega), o1 7 _ (by omega)]; simp [sh_zero]
  | 7, _ => rw [i0 _ (by omega), i1 1 _ (by omega), i1 2 _ (by omega), i1 3 _ (by omega), i1 4 _ (by omega), i1 5 _ (by omega), i1 6 _ (by omega), i1 7 _ (by omega), i0 _ (by omega), i1 1 _ (by omega), i1 2 _ (by omega), i1 3 _ (by omega), i1 4 _ (by omega), i1 5 _ (by omega), i1 6 _ (by omega), o1 7 _ (by omega)]; simp [sh_zero]
theorem packN_step (m : Nat) (l : List UInt8) (k : Nat) (hk : k < l.length) (hm : k / 8 < m) :
    packN m (l.take (k + 1)) = (packN m (l.take k)).set (k / 8) (byteAt (l.take k) (k / 8) ||| sh l[k] (k % 8)) := by
  refine List.ext_getElem (by simp [packN]) fun j h1 h2 => ?_
  rw [List.getElem_set]
  have hj : j < m := by simpa [packN] using h1
  simp only [packN, List.getElem_map, List.getElem_range]
  by_cases h : k / 8 = j
  · rw [if_pos h, ← h]
    have := byteAt_step l (k / 8) (k % 8) (by omega)
    rw [show 8 * (k / 8) + k % 8 = k by omega] at this
    rw [this]
    simp [hk]
  · rw [if_neg h]
    exact byteAt_other _ _ _ (fun e => h e.symm)
theorem packN_none (m : Nat) (l : List UInt8) : packN m (l.take 0) = List.replicate m 0 := by
  refine List.ext_getElem (by simp [packN]) fun j h1 h2 => ?_
  simp only [packN, List.getElem_map, List.getElem_range, List.getElem_replicate]
  exact byteAt_out _ _ _ (by omega)
theorem packN_grow (l : List UInt8) (m : Nat) : packN (m + 1) (l.take (8 * m)) = packN m (l.take (8 * m)) ++ [0] := by
  unfold packN
  rw [List.range_succ, List.map_append, List.map_singleton, byteAt_out _ _ _ (by omega)]
theorem chain (c : UInt8) : sh (bit c 0) 0 ||| sh (bit c 1) 1 ||| sh (bit c 2) 2 ||| sh (bit c 3) 3 ||| sh (bit c 4) 4 ||| sh (bit c 5) 5 ||| sh (bit c 6) 6 ||| sh (bit c 7) 7 = c := by
  have : ∀ n : Fin 256, (fun c : UInt8 => sh (bit c 0) 0 ||| sh (bit c 1) 1 ||| sh (bit c 2) 2 ||| sh (bit c 3) 3 ||| sh (bit c 4) 4 ||| sh (bit c 5) 5 ||| sh (bit c 6) 6 ||| sh (bit c 7) 7) (UInt8.ofNat n.val) = UInt8.ofNat n.val := by decide +kernel
  have h := this ⟨c.toNat, c.toNat_lt⟩
  simpa using h
/-- the bytes whose bits are the bits of b -/
theorem pack_of (b : List UInt8) : packN b.length (of b) = b := by
  refine List.ext_getElem (by simp [packN]) fun j h1 h2 => ?_
  simp only [packN, List.getElem_map, List.getElem_range]
  have g : ∀ t, t < 8 → (of b).getD (8 * j + t) 0 = bit b[j] t := by
    intro t ht
    unfold of
    rw [ofN_getD _ _ _ (by omega), show (8 * j + t) / 8 = j by omega, show (8 * j + t) % 8 = t by omega]
    simp [h2]
  unfold byteAt
  rw [g 1 (by omega), g 2 (by omega), g 3 (by omega), g 4 (by omega), g 5 (by omega), g 6 (by omega), g 7 (by omega)]
  have := g 0 (by omega)
  rw [Nat.add_zero] at this
  rw [this]
  exact chain _
end Go.Proofs.Ytkiofgbfalihoaa.Bit

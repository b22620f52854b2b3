/- Plain mathematics of octet stuffing: what the document says of Stuff and Unstuff, over lists of octets; stuffed octets hold no flag and come back. No condition on the program: nothing of it is named here. -/
namespace Go.Proofs.Ytnogdlekijpdhaa.Oct
set_option linter.unusedVariables false

/-- one octet, stuffed -/
def esc (c : UInt8) : List UInt8 := if c = 126 ∨ c = 125 then [125, c ^^^ 32] else [c]
def stuff (l : List UInt8) : List UInt8 := l.flatMap esc
/-- what is left of the octets is unstuffed behind acc: e, an Escape went ahead -/
def un : Bool → List UInt8 → List UInt8 → List UInt8 × Int
  | false, acc, [] => (acc, 0)
  | true, _, [] => ([], 4)
  | false, acc, c :: l => if c = 126 then ([], 2) else if c = 125 then un true acc l else un false (acc ++ [c]) l
  | true, acc, c :: l => if c = 126 then ([], 2) else un false (acc ++ [c ^^^ 32]) l

theorem stuff_nil : stuff [] = [] := rfl
theorem stuff_append (a b : List UInt8) : stuff (a ++ b) = stuff a ++ stuff b := by simp [stuff]
theorem stuff_snoc (l : List UInt8) (k : Nat) (hk : k < l.length) : stuff (l.take (k + 1)) = stuff (l.take k) ++ esc l[k] := by
  rw [List.take_succ_eq_append_getElem hk, stuff_append]
  simp [stuff]
theorem esc_len (c : UInt8) : 1 ≤ (esc c).length ∧ (esc c).length ≤ 2 := by
  unfold esc
  split <;> simp
theorem stuff_len (l : List UInt8) : l.length ≤ (stuff l).length ∧ (stuff l).length ≤ 2 * l.length := by
  induction l with
  | nil => simp [stuff]
  | cons c l ih =>
    have h := esc_len c
    simp only [stuff, List.flatMap_cons, List.length_append, List.length_cons] at ih ⊢
    omega
theorem stuff_take (l : List UInt8) (k : Nat) (hk : k ≤ l.length) : (stuff (l.take k)).length ≤ 2 * k := by
  have := (stuff_len (l.take k)).2
  rw [List.length_take, Nat.min_eq_left hk] at this
  exact this
theorem esc_free (c : UInt8) : ∀ x ∈ esc c, x ≠ 126 := by
  unfold esc
  intro x hx
  split at hx
  · rename_i h
    simp at hx
    rcases h with rfl | rfl <;> rcases hx with rfl | rfl <;> decide
  · rename_i h
    simp at hx
    subst hx
    exact fun e => h (.inl e)
theorem stuff_free (l : List UInt8) : ∀ x ∈ stuff l, x ≠ 126 := by
  intro x hx
  obtain ⟨c, _, h⟩ := List.mem_flatMap.mp hx
  exact esc_free c x h
theorem un_esc (acc : List UInt8) (c : UInt8) (l : List UInt8) : un false acc (esc c ++ l) = un false (acc ++ [c]) l := by
  unfold esc
  split
  · rename_i h
    have h1 : ∀ c : UInt8, c ^^^ 32 ^^^ 32 = c := fun c => by rw [UInt8.xor_assoc]; simp
    have h2 : (126 : UInt8) ^^^ 32 ≠ 126 := by decide
    have h3 : (125 : UInt8) ^^^ 32 ≠ 126 := by decide
    rcases h with rfl | rfl <;> simp [un, h1, h2, h3]
  · rename_i h
    simp only [not_or] at h
    simp [un, h.1, h.2]
theorem un_stuff (acc l : List UInt8) : un false acc (stuff l) = (acc ++ l, 0) := by
  induction l generalizing acc with
  | nil => simp [stuff, un]
  | cons c l ih =>
    have : stuff (c :: l) = esc c ++ stuff l := by simp [stuff]
    rw [this, un_esc, ih]
    simp
/-- what is read is no longer than what came -/
theorem un_len (e : Bool) (acc l : List UInt8) : (un e acc l).1.length ≤ acc.length + l.length := by
  induction l generalizing e acc with
  | nil => cases e <;> simp [un]
  | cons c l ih =>
    cases e
    · unfold un
      split
      · simp
      split
      · have := ih true acc; simp; omega
      · have := ih false (acc ++ [c]); simp at this ⊢; omega
    · unfold un
      split
      · simp
      · have := ih false (acc ++ [c ^^^ 32]); simp at this ⊢; omega
theorem un_bounds (e : Bool) (acc l : List UInt8) : 0 ≤ (un e acc l).2 ∧ (un e acc l).2 ≤ 4 := by
  induction l generalizing e acc with
  | nil => cases e <;> simp [un]
  | cons c l ih =>
    cases e
    · unfold un
      split
      · simp
      split
      · exact ih _ _
      · exact ih _ _
    · unfold un
      split
      · simp
      · exact ih _ _

section
variable {l acc : List UInt8} {r : List UInt8 × Int}
theorem drop_at (l : List UInt8) (k : Nat) (hk : k < l.length) : l.drop k = l[k] :: l.drop (k + 1) := List.drop_eq_getElem_cons hk
theorem end0 {k : Nat} (hk : l.length ≤ k) (h : un false acc (l.drop k) = r) : r = (acc, 0) := by
  rw [List.drop_eq_nil_of_le hk] at h
  exact h.symm
theorem end1 {k : Nat} (hk : l.length ≤ k) (h : un true acc (l.drop k) = r) : r = ([], 4) := by
  rw [List.drop_eq_nil_of_le hk] at h
  exact h.symm
theorem flag0 {k : Nat} (hk : k < l.length) (hc : l[k] = 126) (h : un false acc (l.drop k) = r) : r = ([], 2) := by
  rw [drop_at l k hk, un, if_pos hc] at h
  exact h.symm
theorem flag1 {k : Nat} (hk : k < l.length) (hc : l[k] = 126) (h : un true acc (l.drop k) = r) : r = ([], 2) := by
  rw [drop_at l k hk, un, if_pos hc] at h
  exact h.symm
theorem esc0 {k : Nat} (hk : k < l.length) (hc : l[k] = 125) (h : un false acc (l.drop k) = r) : un true acc (l.drop (k + 1)) = r := by
  rw [drop_at l k hk, un, if_neg (by rw [hc]; decide), if_pos hc] at h
  exact h
theorem step0 {k : Nat} (hk : k < l.length) (h1 : l[k] ≠ 126) (h2 : l[k] ≠ 125) (h : un false acc (l.drop k) = r) : un false (acc ++ [l[k]]) (l.drop (k + 1)) = r := by
  rw [drop_at l k hk, un, if_neg h1, if_neg h2] at h
  exact h
theorem step1 {k : Nat} (hk : k < l.length) (h1 : l[k] ≠ 126) (h : un true acc (l.drop k) = r) : un false (acc ++ [l[k] ^^^ 32]) (l.drop (k + 1)) = r := by
  rw [drop_at l k hk, un, if_neg h1] at h
  exact h
end

/-- how many of the octets are stuffed -/
def cnt (l : List UInt8) : Nat := (l.filter fun c => decide (c = 126 ∨ c = 125)).length
theorem stuff_count (l : List UInt8) : (stuff l).length = l.length + cnt l := by
  induction l with
  | nil => rfl
  | cons c l ih =>
    have : stuff (c :: l) = esc c ++ stuff l := by simp [stuff]
    rw [this, List.length_append, ih]
    unfold cnt esc
    by_cases h : c = 126 ∨ c = 125 <;> simp [h] <;> omega
theorem cnt_snoc (l : List UInt8) (k : Nat) (hk : k < l.length) : cnt (l.take (k + 1)) = cnt (l.take k) + if l[k] = 126 ∨ l[k] = 125 then 1 else 0 := by
  rw [List.take_succ_eq_append_getElem hk]
  unfold cnt
  rw [List.filter_append]
  by_cases h : l[k] = 126 ∨ l[k] = 125 <;> simp [h]
theorem cnt_le (l : List UInt8) : cnt l ≤ l.length := List.length_filter_le _ _
end Go.Proofs.Ytnogdlekijpdhaa.Oct

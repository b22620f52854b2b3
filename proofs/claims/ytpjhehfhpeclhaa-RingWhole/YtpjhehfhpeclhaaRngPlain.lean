/- A transmit buffer as plain data: pieces in their order, whether the first one was begun, what was dropped; add, take and clear. No condition. -/
import Derived.Test.YtpjhehfhpeclhaaPipPlain
namespace Go.Proofs.Ytpjhehfhpeclhaa
set_option linter.unusedVariables false

/-- a ring: how many octets it holds at most, its pieces, whether some of the first one was taken, how many were dropped -/
structure Rng where
  R : Nat
  l : List (List UInt8)
  beg : Bool
  D : Nat
/-- the lengths of pieces -/
def lens (l : List (List UInt8)) : List Nat := l.map List.length
/-- how many octets are left of the piece that was begun -/
def gOf (l : List (List UInt8)) (b : Bool) : Nat := bif b then (l.headD []).length else 0
/-- the lengths of the pieces from which nothing was taken -/
def whOf (l : List (List UInt8)) (b : Bool) : List Nat := bif b then lens l.tail else lens l
/-- what n octets taken leave -/
def tk : List (List UInt8) → Nat → Bool → List (List UInt8) × Bool
  | [], _, b => ([], b)
  | x :: l, n, b => if n = 0 then (x :: l, b) else if n < x.length then (x.drop n :: l, true) else tk l (n - x.length) false
/-- the same by lengths alone -/
def ps : Nat → Nat → List Nat → Nat × List Nat
  | n, g, [] => (g - n, [])
  | n, g, h :: t => if n ≤ g then (g - n, h :: t) else ps (n - g) h t
theorem tk_zero (l : List (List UInt8)) (b : Bool) : tk l 0 b = (l, b) := by cases l <;> simp [tk]
theorem tk_flat : ∀ (l : List (List UInt8)) (n : Nat) (b : Bool), (tk l n b).1.flatten = l.flatten.drop n := by
  intro l
  induction l with
  | nil => intro n b; simp [tk]
  | cons x l ih =>
    intro n b
    unfold tk
    split
    · next h => simp [h]
    split
    · next h => simp [List.drop_append, show n - x.length = 0 by omega]
    · next h => rw [ih]; simp [List.drop_append, List.drop_eq_nil_of_le (show x.length ≤ n by omega)]
theorem tk_full : ∀ (l : List (List UInt8)) (n : Nat) (b : Bool), (∀ x ∈ l, x ≠ []) → ∀ x ∈ (tk l n b).1, x ≠ [] := by
  intro l
  induction l with
  | nil => intro n b h; simp [tk]
  | cons x l ih =>
    intro n b h
    unfold tk
    split
    · exact h
    split
    · next hn =>
      intro y hy
      rcases List.mem_cons.1 hy with rfl | hy
      · intro e
        have := congrArg List.length e
        simp at this
        omega
      · exact h y (List.mem_cons_of_mem _ hy)
    · exact ih _ _ (fun y hy => h y (List.mem_cons_of_mem _ hy))
theorem tk_beg : ∀ (l : List (List UInt8)) (n : Nat) (b : Bool), (b = true → l ≠ []) → (tk l n b).2 = true → (tk l n b).1 ≠ [] := by
  intro l
  induction l with
  | nil => intro n b h h'; simp [tk] at h'; exact absurd rfl (h h')
  | cons x l ih =>
    intro n b h
    unfold tk
    split
    · intro _; simp
    split
    · intro _; simp
    · exact ih _ _ (fun e => by cases e)
theorem lens_len (l : List (List UInt8)) : (lens l).length = l.length := by simp [lens]
theorem ps_zero (g : Nat) (wh : List Nat) : ps 0 g wh = (g, wh) := by cases wh <;> simp [ps]
theorem ps_le {n g : Nat} (h : n ≤ g) (wh : List Nat) : ps n g wh = (g - n, wh) := by cases wh <;> simp [ps, h]
theorem ps_gt {n g : Nat} (h : g < n) (x : Nat) (wh : List Nat) : ps n g (x :: wh) = ps (n - g) x wh := by simp [ps, show ¬ n ≤ g by omega]
theorem ps_tk : ∀ (l : List (List UInt8)) (n : Nat) (b : Bool), (b = true → l ≠ []) → n ≤ l.flatten.length → ps n (gOf l b) (whOf l b) = (gOf (tk l n b).1 (tk l n b).2, whOf (tk l n b).1 (tk l n b).2) := by
  intro l
  induction l with
  | nil =>
    intro n b h hn
    have hb : b = false := by cases b; rfl; exact absurd rfl (h rfl)
    have hn : n = 0 := by simpa using hn
    subst hb hn
    rfl
  | cons x l ih =>
    have key : ∀ n, 0 < n → n ≤ (x :: l).flatten.length → ps n x.length (lens l) = (gOf (tk (x :: l) n true).1 (tk (x :: l) n true).2, whOf (tk (x :: l) n true).1 (tk (x :: l) n true).2) := by
      intro n hp hn
      have e : tk (x :: l) n true = if n < x.length then (x.drop n :: l, true) else tk l (n - x.length) false := by simp [tk, show n ≠ 0 by omega]
      rw [e]
      by_cases h1 : n < x.length
      · rw [if_pos h1, ps_le (by omega)]
        simp [gOf, whOf]
      · rw [if_neg h1]
        have hn' : n - x.length ≤ l.flatten.length := by simp at hn ⊢; omega
        have := ih (n - x.length) false (fun e => by cases e) hn'
        rw [← this]
        by_cases h2 : n = x.length
        · subst h2
          rw [Nat.sub_self, ps_zero, ps_le (Nat.le_refl _), Nat.sub_self]
          rfl
        · show ps n x.length (lens l) = ps (n - x.length) 0 (lens l)
          cases l with
          | nil => simp at hn'; omega
          | cons y l =>
            show ps n x.length (y.length :: lens l) = ps (n - x.length) 0 (y.length :: lens l)
            rw [ps_gt (by omega), ps_gt (by omega), Nat.sub_zero]
    intro n b h hn
    rcases Nat.eq_zero_or_pos n with h0 | hp
    · subst h0
      rw [tk_zero, ps_zero]
    · have e : tk (x :: l) n b = tk (x :: l) n true := by simp [tk, show n ≠ 0 by omega]
      rw [e, ← key n hp hn]
      cases b
      · show ps n 0 (x.length :: lens l) = ps n x.length (lens l)
        rw [ps_gt hp, Nat.sub_zero]
      · rfl

namespace Rng
/-- the octets -/
def o (s : Rng) : List UInt8 := s.l.flatten
def g (s : Rng) : Nat := gOf s.l s.beg
def wh (s : Rng) : List Nat := whOf s.l s.beg
def Ok (s : Rng) : Prop := s.o.length ≤ s.R ∧ s.R ≤ 1048576 ∧ s.D ≤ 4294967295 ∧ (∀ x ∈ s.l, x ≠ []) ∧ (s.beg = true → s.l ≠ [])
def fits (s : Rng) (x : List UInt8) : Bool := decide (s.o.length + x.length ≤ s.R)
def add (s : Rng) (x : List UInt8) : Rng := bif s.fits x then (bif x.isEmpty then s else ⟨s.R, s.l ++ [x], s.beg, s.D⟩) else ⟨s.R, s.l, s.beg, min (s.D + 1) 4294967295⟩
def takeL (s : Rng) (n : Int) : List UInt8 := s.o.take (lim n s.o.length)
def take (s : Rng) (n : Int) : Rng := ⟨s.R, (tk s.l (lim n s.o.length) s.beg).1, (tk s.l (lim n s.o.length) s.beg).2, s.D⟩
def clear (s : Rng) : Rng := ⟨s.R, bif s.beg then s.l.take 1 else [], s.beg, s.D⟩
/-- how many octets go when it is cleared -/
def gone (s : Rng) : Nat := s.o.length - s.g
theorem g_le (s : Rng) : s.g ≤ s.o.length := by
  unfold g gOf o
  cases s.beg
  · simp
  · cases s.l <;> simp
theorem lens_le (l : List (List UInt8)) (h : ∀ x ∈ l, x ≠ []) : l.length ≤ l.flatten.length := by
  induction l with
  | nil => simp
  | cons x l ih =>
    have h1 := ih (fun y hy => h y (List.mem_cons_of_mem _ hy))
    have h2 := List.length_pos_iff.2 (h x (List.mem_cons_self ..))
    simp at h1 ⊢
    omega
theorem wh_le {s : Rng} (h : s.Ok) : s.wh.length ≤ s.o.length := by
  have h1 := lens_le s.l h.2.2.2.1
  unfold wh whOf o
  cases s.beg
  · simpa [lens] using h1
  · have : s.l.tail.length ≤ s.l.length := by simp
    simp only [cond_true, lens_len]
    omega
theorem take_o (s : Rng) (n : Int) : (s.take n).o = s.o.drop (lim n s.o.length) := tk_flat _ _ _
theorem Ok.take {s : Rng} (h : s.Ok) (n : Int) : (s.take n).Ok := by
  refine ⟨?_, h.2.1, h.2.2.1, tk_full _ _ _ h.2.2.2.1, tk_beg _ _ _ h.2.2.2.2⟩
  rw [take_o]
  have := h.1
  simp
  show _ ≤ s.R + _
  omega
theorem take_gw {s : Rng} (h : s.Ok) (n : Int) : ps (lim n s.o.length) s.g s.wh = ((s.take n).g, (s.take n).wh) := ps_tk s.l _ s.beg h.2.2.2.2 (lim_le _ _)
theorem add_no {s : Rng} {x : List UInt8} (h : ¬ s.o.length + x.length ≤ s.R) : s.fits x = false ∧ s.add x = ⟨s.R, s.l, s.beg, min (s.D + 1) 4294967295⟩ := by
  have : s.fits x = false := decide_eq_false h
  exact ⟨this, by unfold add; rw [this]; rfl⟩
theorem add_nil {s : Rng} (h : s.o.length + 0 ≤ s.R) : s.fits [] = true ∧ s.add [] = s := by
  have : s.fits [] = true := decide_eq_true h
  exact ⟨this, by unfold add; rw [this]; rfl⟩
theorem add_yes {s : Rng} {x : List UInt8} (h : s.o.length + x.length ≤ s.R) (hx : x ≠ []) : s.fits x = true ∧ s.add x = ⟨s.R, s.l ++ [x], s.beg, s.D⟩ := by
  have : s.fits x = true := decide_eq_true h
  refine ⟨this, ?_⟩
  unfold add
  rw [this]
  cases x
  · exact absurd rfl hx
  · rfl
theorem Ok.add {s : Rng} (h : s.Ok) (x : List UInt8) : (s.add x).Ok := by
  by_cases hf : s.o.length + x.length ≤ s.R
  · cases x with
    | nil => rw [(add_nil hf).2]; exact h
    | cons y x =>
      rw [(add_yes hf (by simp)).2]
      refine ⟨?_, h.2.1, h.2.2.1, ?_, fun _ => by simp⟩
      · unfold o at hf ⊢
        simpa using hf
      · intro z hz
        rcases List.mem_append.1 hz with hz | hz
        · exact h.2.2.2.1 z hz
        · simp at hz; rw [hz]; simp
  · rw [(add_no hf).2]
    exact ⟨h.1, h.2.1, Nat.min_le_right _ _, h.2.2.2.1, h.2.2.2.2⟩
theorem gw_app (l : List (List UInt8)) (b : Bool) (h : b = true → l ≠ []) (x : List UInt8) : gOf (l ++ [x]) b = gOf l b ∧ whOf (l ++ [x]) b = whOf l b ++ [x.length] := by
  cases b
  · exact ⟨rfl, by simp [whOf, lens]⟩
  · cases l with
    | nil => exact absurd rfl (h rfl)
    | cons y l => exact ⟨rfl, by simp [whOf, lens]⟩
theorem lens_sum (l : List (List UInt8)) : (lens l).sum = l.flatten.length := by
  induction l with
  | nil => rfl
  | cons x l ih => simp [lens] at ih ⊢
theorem gw_sum {s : Rng} (h : s.Ok) : s.g + s.wh.sum = s.o.length := by
  have h5 := h.2.2.2.2
  unfold g wh gOf whOf o
  cases hb : s.beg
  · simp [lens_sum]
  · cases hl : s.l with
    | nil => exact absurd hl (h5 hb)
    | cons x l => simp [lens_sum]
theorem clear_o (s : Rng) : s.clear.o = s.o.take s.g := by
  unfold clear o g gOf
  cases s.beg
  · simp
  · cases s.l <;> simp
theorem clear_gw (s : Rng) : s.clear.g = s.g ∧ s.clear.wh = [] := by
  unfold clear g wh gOf whOf
  cases hb : s.beg
  · simp [lens]
  · cases s.l <;> simp [lens]
theorem Ok.clear {s : Rng} (h : s.Ok) : s.clear.Ok := by
  refine ⟨?_, h.2.1, h.2.2.1, ?_, ?_⟩
  · rw [clear_o]
    have := h.1
    rw [List.length_take]
    show _ ≤ s.R
    omega
  · intro x hx
    unfold Rng.clear at hx
    cases hb : s.beg <;> simp [hb] at hx
    exact h.2.2.2.1 x (List.mem_of_mem_take hx)
  · intro hb
    have hb' : s.beg = true := hb
    have := h.2.2.2.2 hb'
    unfold Rng.clear
    cases hl : s.l <;> simp_all
theorem gone_clear (s : Rng) : s.clear.o.length + s.gone = s.o.length := by
  rw [clear_o]
  have := g_le s
  unfold gone
  simp
  omega
end Rng
/-- a new ring -/
def newRng (room : Int) : Rng := ⟨(min (max room 0) 1048576).toNat, [], false, 0⟩
theorem newRng_ok (room : Int) : (newRng room).Ok := by
  refine ⟨by simp [newRng, Rng.o], ?_, by simp [newRng], fun x hx => by simp [newRng] at hx, fun h => by simp [newRng] at h⟩
  simp [newRng]
  omega
end Go.Proofs.Ytpjhehfhpeclhaa

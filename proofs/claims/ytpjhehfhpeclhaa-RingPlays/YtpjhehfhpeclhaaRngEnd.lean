/- Where the piece that was begun ends, plainly. No condition. -/
import Derived.Test.YtpjhehfhpeclhaaRngStr
namespace Go.Proofs.Ytpjhehfhpeclhaa
set_option linter.unusedVariables false

/-- the pieces that have octets -/
def full (ls : List (List UInt8)) : List (List UInt8) := ls.filter (fun x => !x.isEmpty)
/-- the end of the piece that was begun, looked for from e on -/
def en (k : Nat) : Nat → List Nat → Nat
  | e, [] => e
  | e, h :: t => if e < k then en k (e + h) t else e
theorem en_done {k e : Nat} (h : k ≤ e) (t : List Nat) : en k e t = e := by cases t <;> simp [en, show ¬ e < k by omega]
theorem en_step {k e : Nat} (h : e < k) (x : Nat) (t : List Nat) : en k e (x :: t) = en k (e + x) t := by simp [en, h]
theorem en_full (k : Nat) : ∀ (ls : List (List UInt8)) (e : Nat), en k e (lens ls) = en k e (lens (full ls)) := by
  intro ls
  induction ls with
  | nil => intro e; rfl
  | cons x ls ih =>
    intro e
    rcases x with _ | ⟨y, x⟩
    · show en k e (0 :: lens ls) = en k e (lens (full ls))
      by_cases h : e < k
      · rw [en_step h, Nat.add_zero, ih]
      · rw [en_done (by omega), en_done (by omega)]
    · show en k e ((x.length + 1) :: lens ls) = en k e ((x.length + 1) :: lens (full ls))
      by_cases h : e < k
      · rw [en_step h, en_step h, ih]
      · rw [en_done (by omega), en_done (by omega)]
theorem en_ps (k : Nat) : ∀ (t : List Nat) (e n g : Nat), e + n = k + g → n ≤ g + t.sum → en k e t = k + (ps n g t).1 := by
  intro t
  induction t with
  | nil =>
    intro e n g h hn
    simp at hn
    simp [en, ps]
    omega
  | cons x t ih =>
    intro e n g h hn
    by_cases hk : e < k
    · rw [en_step hk, ps_gt (by omega)]
      exact ih _ _ _ (by omega) (by simp at hn; omega)
    · rw [en_done (by omega), ps_le (by omega)]
      simp
      omega
theorem full_flat (ls : List (List UInt8)) : (full ls).flatten = ls.flatten := by
  induction ls with
  | nil => rfl
  | cons x ls ih =>
    rcases x with _ | ⟨y, x⟩
    · show (full ls).flatten = _
      rw [ih]
      rfl
    · show ((y :: x) :: full ls).flatten = _
      rw [List.flatten_cons, ih, List.flatten_cons]
theorem full_add (ls : List (List UInt8)) (x : List UInt8) (R D : Nat) (h : ls.flatten.length + x.length ≤ R) : (⟨R, full ls, false, D⟩ : Rng).add x = ⟨R, full (ls ++ [x]), false, D⟩ := by
  have hf : (⟨R, full ls, false, D⟩ : Rng).o.length + x.length ≤ (⟨R, full ls, false, D⟩ : Rng).R := by
    show (full ls).flatten.length + x.length ≤ R
    rw [full_flat]
    exact h
  rcases x with _ | ⟨y, x⟩
  · rw [(Rng.add_nil hf).2]
    simp [full]
  · rw [(Rng.add_yes hf (by simp)).2]
    simp [full]
theorem take_next {ls : List (List UInt8)} {i : Nat} (h : i < ls.length) : ls.take (i + 1) = ls.take i ++ [ls.getD i []] := by
  rw [List.take_add_one]
  simp [h]
theorem drop_next {ls : List (List UInt8)} {i : Nat} (h : i < ls.length) : ls.drop i = ls.getD i [] :: ls.drop (i + 1) := by
  rw [List.drop_eq_getElem_cons h]
  simp [h]
/-- what Clear leaves behind a Take of n, among the octets of all pieces -/
theorem clear_parts (ls : List (List UInt8)) (R D : Nat) (n : Int) :
    ∃ M N, ((⟨R, full ls, false, D⟩ : Rng).take n).clear.o = M ∧ ((⟨R, full ls, false, D⟩ : Rng).take n).gone = N.length ∧ ls.flatten = (⟨R, full ls, false, D⟩ : Rng).takeL n ++ (M ++ N) ∧
      en ((⟨R, full ls, false, D⟩ : Rng).takeL n).length 0 (lens ls) = ((⟨R, full ls, false, D⟩ : Rng).takeL n).length + M.length := by
  obtain ⟨s, hs⟩ : ∃ s, s = (⟨R, full ls, false, D⟩ : Rng) := ⟨_, rfl⟩
  rw [← hs]
  have ho : s.o = ls.flatten := by rw [hs]; exact full_flat ls
  have hk := lim_le n s.o.length
  have hlen : (s.takeL n).length = lim n s.o.length := by unfold Rng.takeL; rw [List.length_take]; omega
  have hgl := Rng.g_le (s.take n)
  refine ⟨(s.take n).o.take (s.take n).g, (s.take n).o.drop (s.take n).g, Rng.clear_o _, ?_, ?_, ?_⟩
  · unfold Rng.gone
    rw [List.length_drop]
  · rw [List.take_append_drop, Rng.take_o, ← ho]
    exact (List.take_append_drop _ _).symm
  · rw [hlen, en_full, List.length_take, Nat.min_eq_left hgl]
    have hsum : lim n s.o.length ≤ 0 + (lens (full ls)).sum := by
      rw [Rng.lens_sum, full_flat, ← ho, Nat.zero_add]
      exact hk
    rw [en_ps _ _ 0 (lim n s.o.length) 0 (by omega) hsum]
    have h1 := ps_tk (full ls) (lim n s.o.length) false (fun h => by cases h) (by rw [full_flat, ← ho]; exact hk)
    have h2 : (s.take n).g = (ps (lim n s.o.length) (gOf (full ls) false) (whOf (full ls) false)).1 := by
      rw [h1, hs]
      rfl
    rw [h2]
    rfl
end Go.Proofs.Ytpjhehfhpeclhaa

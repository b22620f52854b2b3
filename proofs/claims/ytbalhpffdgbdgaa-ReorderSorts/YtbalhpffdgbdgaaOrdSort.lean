/- An order whose messages arrive in any order within the window: what it holds is what came; Put and the rounds behind it. No condition. -/
import Derived.Test.YtbalhpffdgbdgaaOrdSay
namespace Go.Proofs.Ytbalhpffdgbdgaa
set_option linter.unusedVariables false

/-- the message k -/
def mw (k : Nat) : List UInt8 := [UInt8.ofNat k, UInt8.ofNat (k / 256)]
theorem mod_ne {a b m : Nat} (h1 : a < b) (h2 : b < a + m) : a % m ≠ b % m := fun e => by
  have h3 := Nat.sub_mod_eq_zero_of_mod_eq e.symm
  rw [Nat.mod_eq_of_lt (by omega)] at h3
  omega
/-- What is kept, K, is what came (C) of the window from N on. -/
structure AB (m W : Nat) (C : Nat → Bool) (N : Nat) (K : List (Int × List UInt8)) : Prop where
  at_ : ∀ j, N ≤ j → j < N + W → lk K ((j % m : Nat) : Int) = if C j then some (mw j) else none
  key : ∀ (q : Int) (x : List UInt8), lk K q = some x → ∃ j, N ≤ j ∧ j < N + W ∧ q = ((j % m : Nat) : Int)
  top : ∀ j, C j = true → j < N + W
  ds : Ds K
section
variable {m W N n : Nat} {C : Nat → Bool} {K : List (Int × List UInt8)}
theorem AB.out (h : AB m W C N K) (hw : W < m) {j : Nat} (h1 : N + W ≤ j) (h2 : j < N + m) : lk K ((j % m : Nat) : Int) = none := by
  cases hk : lk K ((j % m : Nat) : Int) with
  | none => rfl
  | some x =>
    obtain ⟨j', g1, g2, g3⟩ := h.key _ _ hk
    exact absurd (by omega : j' % m = j % m) (mod_ne (by omega) (by omega))
theorem AB.step (h : AB m W C N K) (hw1 : 1 ≤ W) (hw : W < m) : AB m W C (N + 1) (dl K ((N % m : Nat) : Int)) := by
  refine ⟨fun j h1 h2 => ?_, fun q x hq => ?_, fun j hj => by have := h.top j hj; omega, ds_dl h.ds⟩
  · rw [lk_dl_other (by have := mod_ne (m := m) (show N < j by omega) (by omega); omega)]
    by_cases hj : j < N + W
    · exact h.at_ j (by omega) hj
    · rw [h.out hw (by omega) (by omega)]
      cases hc : C j with
      | false => rfl
      | true => have := h.top j hc; omega
  · have hne : q ≠ ((N % m : Nat) : Int) := fun e => by rw [e, lk_dl_same h.ds] at hq; cases hq
    rw [lk_dl_other hne] at hq
    obtain ⟨j, g1, g2, g3⟩ := h.key q x hq
    refine ⟨j, ?_, by omega, g3⟩
    rcases Nat.lt_or_ge N j with h' | h'
    · exact h'
    · exact absurd (by rw [g3, show j = N by omega]) hne
/-- the rounds of advance -/
theorem adv_to (hw1 : 1 ≤ W) (hw : W < m) : ∀ (d N : Nat) (K : List (Int × List UInt8)), AB m W C N K → (∀ j, N ≤ j → j < N + d → C j = true) → C (N + d) = false →
    ∃ K', Od.adv (K.length + 1) ⟨m, W, N % m, K, msgs mw N⟩ = ⟨m, W, (N + d) % m, K', msgs mw (N + d)⟩ ∧ AB m W C (N + d) K'
  | 0, N, K, h, _, h0 => by
    have e : lk K ((N % m : Nat) : Int) = none := by rw [h.at_ N (Nat.le_refl _) (by omega), show C N = false from h0]; rfl
    exact ⟨K, Od.adv_none (s := ⟨m, W, N % m, K, msgs mw N⟩) e, h⟩
  | d + 1, N, K, h, h1, h0 => by
    have hN := h1 N (Nat.le_refl _) (by omega)
    have e : lk K ((N % m : Nat) : Int) = some (mw N) := by rw [h.at_ N (Nat.le_refl _) (by omega), hN]; rfl
    obtain ⟨K', e1, e2⟩ := adv_to hw1 hw d (N + 1) _ (h.step hw1 hw) (fun j g1 g2 => h1 j (by omega) (by omega)) (by rw [show N + 1 + d = N + (d + 1) by omega]; exact h0)
    refine ⟨K', ?_, by rw [show N + (d + 1) = N + 1 + d by omega]; exact e2⟩
    rw [Od.adv_some (s := ⟨m, W, N % m, K, msgs mw N⟩) e]
    have e3 : (⟨m, W, N % m, K, msgs mw N⟩ : Od).step (mw N) = ⟨m, W, (N + 1) % m, dl K ((N % m : Nat) : Int), msgs mw (N + 1)⟩ := by
      show (⟨m, W, (N % m + 1) % m, dl K ((N % m : Nat) : Int), msgs mw N ++ [mw N]⟩ : Od) = _
      rw [msgs_next, Nat.mod_add_mod]
    rw [e3, ← dl_len_some e, e1, show N + 1 + d = N + (d + 1) by omega]
/-- what came, k too -/
def upd (C : Nat → Bool) (k : Nat) : Nat → Bool := fun j => if j = k then true else C j
/-- The state between two messages: the numbers up to N came, N did not; what is kept is what came of the window. -/
structure SI (m W n : Nat) (C : Nat → Bool) (N : Nat) (K : List (Int × List UInt8)) : Prop where
  ab : AB m W C N K
  low : ∀ j, j < N → C j = true
  not : C N = false
  lt : ∀ j, C j = true → j < n
  le : N ≤ n
theorem upd_same {k : Nat} (h : C k = true) : upd C k = C := by
  funext j
  unfold upd
  split
  · next e => rw [e, h]
  · rfl
theorem SI.fresh (m W n : Nat) : SI m W n (fun _ => false) 0 [] :=
  ⟨⟨fun j _ _ => rfl, fun q x h => (by cases h), fun j h => (by cases h), trivial⟩, fun j h => absurd h (Nat.not_lt_zero j), rfl, fun j h => (by cases h), Nat.zero_le _⟩
theorem dist_int {k N m : Nat} : ((((k % m : Nat) : Int)) - ((N % m : Nat) : Int)) % (m : Int) = ((k : Int) - (N : Int)) % (m : Int) := by
  rw [Int.natCast_emod, Int.natCast_emod, ← Int.sub_emod]
theorem SI.put (h : SI m W n C N K) (hw1 : 1 ≤ W) (hw : W * 8 ≤ m) (h8 : 8 ≤ m) {k : Nat} (h1 : k < n) (h2 : k < N + W) (h3 : N ≤ k + m / 2) {N' : Nat} (g1 : N ≤ N') (g2 : ∀ j, N ≤ j → j < N' → upd C k j = true) (g3 : upd C k N' = false) :
    ∃ K', (⟨m, W, N % m, K, msgs mw N⟩ : Od).put ((k % m : Nat) : Int) (mw k) = ⟨m, W, N' % m, K', msgs mw N'⟩ ∧ SI m W n (upd C k) N' K' ∧
      (⟨m, W, N % m, K, msgs mw N⟩ : Od).putN ((k % m : Nat) : Int) (mw k) = (if k < N then -1 else if C k then 0 else (N' : Int) - (N : Int)) := by
  have hkm : k % m < m := Nat.mod_lt _ (by omega)
  have hNm : N % m < m := Nat.mod_lt _ (by omega)
  have hq : ((((k % m : Nat) : Int)) % (m : Int)) = ((k % m : Nat) : Int) := Int.emod_eq_of_lt (by omega) (by omega)
  have same : C k = true → N' = N := fun hc => by
    rcases Nat.lt_or_ge N N' with h' | h'
    · have := g2 N (Nat.le_refl _) h'
      rw [upd_same hc, h.not] at this
      cases this
    · omega
  by_cases c1 : k < N
  · have hc := h.low k c1
    obtain rfl := same hc
    obtain ⟨e1, e2⟩ := Od.put_far (s := ⟨m, W, N' % m, K, msgs mw N'⟩) (n := ((k % m : Nat) : Int)) (x := mw k) (by
      unfold Od.far
      show decide ((W : Int) ≤ (((k % m : Nat) : Int) - ((N' % m : Nat) : Int)) % (m : Int)) = true
      rw [dist_int, ← Int.add_emod_right, Int.emod_eq_of_lt (by omega) (by omega)]
      exact decide_eq_true (by omega))
    rw [e1, e2, if_pos c1, upd_same hc]
    exact ⟨K, rfl, h, rfl⟩
  · have hd : ((((k % m : Nat) : Int)) - ((N % m : Nat) : Int)) % (m : Int) = ((k - N : Nat) : Int) := by
      rw [dist_int, Int.emod_eq_of_lt (by omega) (by omega)]
      omega
    have hfar : (⟨m, W, N % m, K, msgs mw N⟩ : Od).far ((k % m : Nat) : Int) = false := by
      unfold Od.far
      show decide ((W : Int) ≤ (((k % m : Nat) : Int) - ((N % m : Nat) : Int)) % (m : Int)) = false
      rw [hd]
      exact decide_eq_false (by omega)
    have hat := h.ab.at_ k (by omega) h2
    rw [if_neg c1]
    cases hc : C k with
    | true =>
      obtain rfl := same hc
      rw [hc] at hat
      obtain ⟨e1, e2⟩ := Od.put_had (s := ⟨m, W, N' % m, K, msgs mw N'⟩) (n := ((k % m : Nat) : Int)) (x := mw k) hfar (by
        unfold Od.had
        show (lk K (((k % m : Nat) : Int) % (m : Int))).isSome = true
        rw [hq, hat]
        rfl)
      rw [e1, e2, upd_same hc]
      exact ⟨K, rfl, h, rfl⟩
    | false =>
      rw [hc] at hat
      obtain ⟨e1, e2⟩ := Od.put_new (s := ⟨m, W, N % m, K, msgs mw N⟩) (n := ((k % m : Nat) : Int)) (x := mw k) hfar (Od.had_false (by
        show lk K (((k % m : Nat) : Int) % (m : Int)) = none
        rw [hq, hat]
        rfl))
      have e3 : (⟨m, W, N % m, K, msgs mw N⟩ : Od).add ((k % m : Nat) : Int) (mw k) = ⟨m, W, N % m, K ++ [(((k % m : Nat) : Int), mw k)], msgs mw N⟩ := by
        unfold Od.add
        show (⟨m, W, N % m, K ++ [((((k % m : Nat) : Int)) % (m : Int), mw k)], msgs mw N⟩ : Od) = _
        rw [hq]
      have hat' : lk K ((k % m : Nat) : Int) = none := by rw [hat]; rfl
      have ab : AB m W (upd C k) N (K ++ [(((k % m : Nat) : Int), mw k)]) := by
        refine ⟨fun j b1 b2 => ?_, fun q x hx => ?_, fun j hj => ?_, ds_snoc h.ab.ds hat'⟩
        · rw [lk_snoc_new hat']
          by_cases e : j = k
          · subst e
            rw [if_pos rfl]
            unfold upd
            rw [if_pos rfl]
            rfl
          · have hne : j % m ≠ k % m := by
              rcases Nat.lt_or_gt_of_ne e with g | g
              · exact mod_ne g (by omega)
              · exact (mod_ne g (by omega)).symm
            rw [if_neg (by omega), h.ab.at_ j b1 b2]
            unfold upd
            rw [if_neg e]
        · rw [lk_snoc_new hat'] at hx
          by_cases e : q = ((k % m : Nat) : Int)
          · exact ⟨k, by omega, h2, e⟩
          · rw [if_neg e] at hx
            exact h.ab.key q x hx
        · unfold upd at hj
          split at hj
          · next e => rw [e]; exact h2
          · exact h.ab.top j hj
      obtain ⟨d, rfl⟩ : ∃ d, N' = N + d := ⟨N' - N, by omega⟩
      obtain ⟨K', e4, ab'⟩ := adv_to hw1 (by omega) d N _ ab g2 g3
      rw [e1, e2, e3]
      rw [e4]
      refine ⟨K', rfl, ⟨ab', fun j hj => ?_, g3, fun j hj => ?_, ?_⟩, ?_⟩
      · by_cases hjN : j < N
        · have := h.low j hjN
          unfold upd
          split
          · rfl
          · exact this
        · exact g2 j (by omega) hj
      · unfold upd at hj
        split at hj
        · omega
        · exact h.lt j hj
      · rcases Nat.eq_zero_or_pos d with rfl | hd0
        · exact h.le
        · have hz := g2 (N + d - 1) (by omega) (by omega)
          have : N + d - 1 < n := by
            unfold upd at hz
            split at hz
            · omega
            · exact h.lt _ hz
          omega
      · show ((msgs mw (N + d)).length : Int) - ((msgs mw N).length : Int) = _
        rw [msgs_len, msgs_len]
        rfl
end
end Go.Proofs.Ytbalhpffdgbdgaa

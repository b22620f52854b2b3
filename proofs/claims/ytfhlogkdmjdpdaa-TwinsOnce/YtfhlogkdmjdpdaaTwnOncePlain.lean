/- Numbers that come twice, not far apart: what a table tells of them, plainly; three bits of an int. No condition. -/
import Derived.Test.YtfhlogkdmjdpdaaTwnPlain
import Derived.Laws.Bits128
namespace Go.Proofs.Ytfhlogkdmjdpdaa
open Go.RowKit
set_option linter.unusedVariables false

/-- of the numbers f, f + 1, .. the table has heard those that R tells -/
structure Kn (m : Tb) (f : Nat) (R : Nat → Bool) : Prop where
  none_ : m.kn = false → ∀ k, R k = false
  some_ : m.kn = true → ∃ M, M < 1000 ∧ R M = true ∧ (∀ k, R k = true → k ≤ M) ∧ m.hi = (f + M) % 4294967296 ∧ ∀ d, m.arr d = (decide (d ≤ M) && R (M - d))
theorem Kn.step {m : Tb} {f : Nat} {R : Nat → Bool} (h : Kn m f R) {k : Nat} (hk : k < 1000) (near : ∀ j, R j = true → j < k + m.S) :
    m.isNew ((f + k) % 4294967296) = !R k ∧ Kn (m.got ((f + k) % 4294967296)) f (fun i => if i = k then true else R i) := by
  unfold Tb.isNew Tb.got
  by_cases hn : m.kn = false
  · have h0 := h.none_ hn
    rw [if_pos hn, if_pos hn, h0 k]
    refine ⟨rfl, fun e => (by cases e), fun _ => ⟨k, hk, if_pos rfl, fun j hj => ?_, rfl, fun d => ?_⟩⟩
    · have hj : (if j = k then true else R j) = true := hj
      by_cases e : j = k
      · omega
      · rw [if_neg e, h0] at hj
        cases hj
    · show (d == 0) = (decide (d ≤ k) && (if k - d = k then true else R (k - d)))
      rw [h0]
      by_cases hd : d = 0
      · subst hd
        simp
      · by_cases hdk : d ≤ k
        · rw [if_neg (by omega)]
          simp [hd]
        · simp [hd, hdk]
  · rw [if_neg hn, if_neg hn]
    obtain ⟨M, hM, hRM, hmax, hhi, harr⟩ := h.some_ (by simpa using hn)
    have hc : k = M ∨ M < k ∨ k < M := by omega
    rcases hc with rfl | hlt | hlt
    · have ha : m.ahead ((f + k) % 4294967296) = 0 := by unfold Tb.ahead; rw [hhi]; omega
      rw [if_pos ha, if_pos ha, hRM]
      have e : (fun i => if i = k then true else R i) = R := funext fun i => by
        by_cases e : i = k
        · rw [if_pos e, e, hRM]
        · rw [if_neg e]
      rw [e]
      exact ⟨rfl, h⟩
    · have ha : m.ahead ((f + k) % 4294967296) = k - M := by unfold Tb.ahead; rw [hhi]; omega
      have h0 : ¬ k - M = 0 := by omega
      have h1 : k - M < 2147483648 := by omega
      have hR : R k = false := by
        cases e : R k with
        | false => rfl
        | true => have := hmax k e; omega
      rw [ha, if_neg h0, if_pos h1, if_neg h0, if_pos h1, hR]
      refine ⟨rfl, fun e => (by cases e), fun _ => ⟨k, hk, if_pos rfl, fun j hj => ?_, rfl, fun d => ?_⟩⟩
      · have hj : (if j = k then true else R j) = true := hj
        by_cases e : j = k
        · omega
        · rw [if_neg e] at hj
          have := hmax j hj
          omega
      · show (if d = 0 then true else if d < m.ahead ((f + k) % 4294967296) then false else m.arr (d - m.ahead ((f + k) % 4294967296))) = (decide (d ≤ k) && (if k - d = k then true else R (k - d)))
        rw [ha]
        by_cases hd : d = 0
        · subst hd
          simp
        · rw [if_neg hd]
          by_cases hdk : d < k - M
          · rw [if_pos hdk, if_neg (by omega)]
            have : R (k - d) = false := by
              cases e : R (k - d) with
              | false => rfl
              | true => have := hmax _ e; omega
            rw [this]
            simp
          · rw [if_neg hdk, harr]
            by_cases hdk2 : d ≤ k
            · rw [if_neg (by omega), show M - (d - (k - M)) = k - d by omega]
              simp [hdk2, show d - (k - M) ≤ M by omega]
            · simp [hdk2, show ¬ d - (k - M) ≤ M by omega]
    · have hnear := near M hRM
      have ha : 2147483648 ≤ m.ahead ((f + k) % 4294967296) := by unfold Tb.ahead; rw [hhi]; omega
      have hb : m.behind ((f + k) % 4294967296) = M - k := by unfold Tb.behind; rw [hhi]; omega
      have h0 : ¬ m.ahead ((f + k) % 4294967296) = 0 := by omega
      have h1 : ¬ m.ahead ((f + k) % 4294967296) < 2147483648 := by omega
      have h2 : ¬ m.S ≤ M - k := by omega
      rw [if_neg h0, if_neg h1, if_neg h0, if_neg h1, hb, if_neg h2, if_neg h2, harr, show M - (M - k) = k by omega]
      refine ⟨by simp, fun e => (by cases e), fun _ => ⟨M, hM, ?_, fun j hj => ?_, hhi, fun d => ?_⟩⟩
      · show (if M = k then true else R M) = true
        rw [if_neg (by omega)]
        exact hRM
      · have hj : (if j = k then true else R j) = true := hj
        by_cases e : j = k
        · omega
        · rw [if_neg e] at hj
          exact hmax j hj
      · show (if d = M - k then true else m.arr d) = (decide (d ≤ M) && (if M - d = k then true else R (M - d)))
        by_cases hd : d = M - k
        · rw [if_pos hd, if_pos (by omega)]
          simp
          omega
        · rw [if_neg hd, harr]
          by_cases hdM : d ≤ M
          · rw [if_neg (by omega)]
          · simp [hdM]
/-- what came of the two rows -/
def Rab (l1 l2 : Nat → Bool) (a b : Nat) : Nat → Bool := fun k => (decide (k < a) && l1 k) || (decide (k < b) && l2 k)
theorem rab_yes1 {l1 l2 : Nat → Bool} {a b : Nat} (h : l1 a = true) : Rab l1 l2 (a + 1) b = fun i => if i = a then true else Rab l1 l2 a b i := funext fun i => by
  unfold Rab
  by_cases e : i = a
  · subst e
    simp [h]
  · rw [if_neg e]
    have : decide (i < a + 1) = decide (i < a) := by simp only [decide_eq_decide]; omega
    rw [this]
theorem rab_no1 {l1 l2 : Nat → Bool} {a b : Nat} (h : l1 a = false) : Rab l1 l2 (a + 1) b = Rab l1 l2 a b := funext fun i => by
  unfold Rab
  by_cases e : i = a
  · subst e
    simp [h]
  · have : decide (i < a + 1) = decide (i < a) := by simp only [decide_eq_decide]; omega
    rw [this]
theorem rab_comm (l1 l2 : Nat → Bool) (a b : Nat) : Rab l1 l2 a b = Rab l2 l1 b a := funext fun i => by unfold Rab; rw [Bool.or_comm]
theorem rab_yes2 {l1 l2 : Nat → Bool} {a b : Nat} (h : l2 b = true) : Rab l1 l2 a (b + 1) = fun i => if i = b then true else Rab l1 l2 a b i := by rw [rab_comm, rab_yes1 h, rab_comm l1]
theorem rab_no2 {l1 l2 : Nat → Bool} {a b : Nat} (h : l2 b = false) : Rab l1 l2 a (b + 1) = Rab l1 l2 a b := by rw [rab_comm, rab_no1 h, rab_comm l1]
theorem rab_lt {l1 l2 : Nat → Bool} {a b j : Nat} (h : Rab l1 l2 a b j = true) : j < a ∨ j < b := by
  unfold Rab at h
  rw [Bool.or_eq_true, Bool.and_eq_true, Bool.and_eq_true] at h
  rcases h with h | h
  · exact .inl (of_decide_eq_true h.1)
  · exact .inr (of_decide_eq_true h.1)
theorem and_key (x y : Int) : bits .and .i64 x y = IntKind.i64.wrap (((x % ((2 ^ 64 : Nat) : Int)).toNat &&& (y % ((2 ^ 64 : Nat) : Int)).toNat : Nat) : Int) := by
  show IntKind.i64.wrap ((BitVec.ofInt 64 x &&& BitVec.ofInt 64 y).toNat : Nat) = _
  rw [BitVec.toNat_and, BitVec.toNat_ofInt, BitVec.toNat_ofInt]
theorem i64_and3 (x : Int) : bits .and .i64 x 3 = x % 4 := by
  rw [and_key, show ((3 : Int) % ((2 ^ 64 : Nat) : Int)).toNat = 2 ^ 2 - 1 by decide, Nat.and_two_pow_sub_one_eq_mod, IntKind.wrap_i64]
  omega
theorem i64_and1 (x : Int) : bits .and .i64 x 1 = x % 2 := by
  rw [and_key, show ((1 : Int) % ((2 ^ 64 : Nat) : Int)).toNat = 2 ^ 1 - 1 by decide, Nat.and_two_pow_sub_one_eq_mod, IntKind.wrap_i64]
  omega
theorem nat_and2 (n : Nat) : n &&& 2 = n % 4 / 2 * 2 := by
  have e : n &&& 2 = (n &&& (2 ^ 2 - 1)) &&& 2 := by rw [Nat.and_assoc]; rfl
  rw [e, Nat.and_two_pow_sub_one_eq_mod]
  have hx : n % 4 = 0 ∨ n % 4 = 1 ∨ n % 4 = 2 ∨ n % 4 = 3 := by omega
  rw [show (2 : Nat) ^ 2 = 4 from rfl]
  rcases hx with h | h | h | h <;> rw [h] <;> rfl
theorem i64_and2 (x : Int) : bits .and .i64 x 2 = x % 4 / 2 * 2 := by
  rw [and_key, show ((2 : Int) % ((2 ^ 64 : Nat) : Int)).toNat = 2 by decide, nat_and2, IntKind.wrap_i64]
  omega
/-- which of the two rows bears the number -/
def f1 (l : List Int) : Nat → Bool := fun k => bits .and .i64 (l.getD k 0) 1 == 0
def f2 (l : List Int) : Nat → Bool := fun k => bits .and .i64 (l.getD k 0) 2 == 0
theorem f3 (l : List Int) (k : Nat) : (bits .and .i64 (l.getD k 0) 3 == 3) = !(f1 l k || f2 l k) := by
  unfold f1 f2
  rw [i64_and1, i64_and2, i64_and3]
  generalize l.getD k 0 = x
  have hx : x % 4 = 0 ∨ x % 4 = 1 ∨ x % 4 = 2 ∨ x % 4 = 3 := by omega
  rcases hx with h | h | h | h
  · rw [h, show x % 2 = 0 by omega]; rfl
  · rw [h, show x % 2 = 1 by omega]; rfl
  · rw [h, show x % 2 = 0 by omega]; rfl
  · rw [h, show x % 2 = 1 by omega]; rfl
end Go.Proofs.Ytfhlogkdmjdpdaa

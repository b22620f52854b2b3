/- The float64 of an integer: what it reads as; sums, differences, order, cutting to an integer. Condition: all integers below 2^53 in size. -/
import Derived.Test.YtnjmnklkbldmgaaRows
import Derived.WalkKit
import Derived.WalkLawsBesides
namespace Go.Proofs.Ytnjmnklkbldmgaa
open Ieee
set_option linter.unusedVariables false

/-- the float of an integer -/
def fl (n : Int) : Nat := floatOfInt .f64 n

theorem binade_d : Ieee.double.binade = 4503599627370496 := by decide +kernel
theorem inf_d : Ieee.double.infRung = 9218868437227405312 := by decide +kernel
theorem sign_d : Ieee.double.signWeight = 9223372036854775808 := by decide +kernel
theorem least_d : Ieee.double.leastPlace = -1074 := by decide +kernel

theorem log2_mul {m : Nat} (hm : m ≠ 0) (k : Nat) : (m * 2 ^ k).log2 = m.log2 + k := by
  have h2 : 0 < 2 ^ k := Nat.two_pow_pos k
  have h0 : m * 2 ^ k ≠ 0 := Nat.mul_ne_zero hm (by omega)
  rw [Nat.log2_eq_iff h0]
  constructor
  · rw [Nat.pow_add]
    exact Nat.mul_le_mul_right _ (Nat.log2_self_le hm)
  · rw [show m.log2 + k + 1 = (m.log2 + 1) + k by omega, Nat.pow_add]
    exact Nat.mul_lt_mul_of_pos_right Nat.lt_log2_self h2
theorem log2_le {m : Nat} (hm : m ≠ 0) (h : m < 9007199254740992) : m.log2 ≤ 52 := by
  have := (Nat.log2_lt hm (k := 53)).2 h
  omega
/-- a whole number of the last place that is kept loses nothing -/
theorem cut_whole (neg : Bool) (q d : Nat) (hq : q ≠ 0) : Toward.even.cut neg (q * 2 ^ d) d = q := by
  have h2 : 0 < 2 ^ d := Nat.two_pow_pos d
  have hl : (q * 2 ^ d).log2 = q.log2 + d := log2_mul hq d
  unfold Toward.cut
  simp only [hl, show min d (q.log2 + d + 2) = d by omega, Nat.one_shiftLeft, Nat.mul_mod_left, Nat.mul_div_cancel _ h2, Nat.mul_zero]
  have : ¬ 2 ^ d < 0 := by omega
  have h3 : (2 ^ d == 0) = false := beq_eq_false_iff_ne.mpr (by omega)
  simp [h3]
/-- the rung of a whole number -/
def rung (m : Nat) : Nat := (m.log2 + 1022) * 4503599627370496 + m * 2 ^ (52 - m.log2)
theorem sig {m : Nat} (hm : m ≠ 0) (h : m < 9007199254740992) : 4503599627370496 ≤ m * 2 ^ (52 - m.log2) ∧ m * 2 ^ (52 - m.log2) < 9007199254740992 := by
  have hl := log2_le hm h
  have e : 2 ^ m.log2 * 2 ^ (52 - m.log2) = 4503599627370496 := by
    rw [← Nat.pow_add, show m.log2 + (52 - m.log2) = 52 by omega]
  have e2 : 2 ^ (m.log2 + 1) * 2 ^ (52 - m.log2) = 9007199254740992 := by
    rw [← Nat.pow_add, show m.log2 + 1 + (52 - m.log2) = 53 by omega]
  constructor
  · rw [← e]; exact Nat.mul_le_mul_right _ (Nat.log2_self_le hm)
  · rw [← e2]; exact Nat.mul_lt_mul_of_pos_right Nat.lt_log2_self (Nat.two_pow_pos _)
theorem rung_lt {m : Nat} (hm : m ≠ 0) (h : m < 9007199254740992) : 4503599627370496 ≤ rung m ∧ rung m < 9218868437227405312 := by
  have h1 := sig hm h
  have h2 := log2_le hm h
  unfold rung
  omega
theorem nearest_whole (neg : Bool) (m M : Nat) (hm : m ≠ 0) (h : m < 9007199254740992) : Ieee.double.nearest neg (m * 2 ^ M) (-(M : Int)) = Ieee.double.word neg (rung m) := by
  have hl := log2_le hm h
  have h2 : 0 < 2 ^ M := Nat.two_pow_pos M
  have h0 : m * 2 ^ M ≠ 0 := Nat.mul_ne_zero hm (by omega)
  have hr := rung_lt hm h
  unfold Format.nearest
  rw [if_neg h0]
  simp only [log2_mul hm, least_d, binade_d, inf_d]
  have hf : Ieee.double.fractionBits = 52 := rfl
  rw [hf]
  have e1 : max (-(M : Int) + ((m.log2 + M : Nat) : Int) - ((52 : Nat) : Int)) (-1074) = (m.log2 : Int) - 52 := by omega
  rw [e1]
  have e2 : ((m.log2 : Int) - 52 - -1074).toNat = m.log2 + 1022 := by omega
  rw [e2]
  have key : Toward.even.cut neg ((m * 2 ^ M) <<< (-(M : Int) - ((m.log2 : Int) - 52)).toNat) ((m.log2 : Int) - 52 - -(M : Int)).toNat = m * 2 ^ (52 - m.log2) := by
    have hq : m * 2 ^ (52 - m.log2) ≠ 0 := by have := (sig hm h).1; omega
    have hs : (m * 2 ^ M) <<< (-(M : Int) - ((m.log2 : Int) - 52)).toNat = (m * 2 ^ (52 - m.log2)) * 2 ^ ((m.log2 : Int) - 52 - -(M : Int)).toNat := by
      rw [Nat.shiftLeft_eq, Nat.mul_assoc, Nat.mul_assoc, ← Nat.pow_add, ← Nat.pow_add]
      congr 2
      omega
    rw [hs, cut_whole _ _ _ hq]
  rw [key]
  show Ieee.double.word neg (min (rung m) _) = _
  rw [Nat.min_eq_left (by omega)]
theorem read_whole (neg : Bool) (m : Nat) (hm : m ≠ 0) (h : m < 9007199254740992) : Ieee.double.read (Ieee.double.word neg (rung m)) = .number neg (m * 2 ^ (52 - m.log2)) (-((52 - m.log2 : Nat) : Int)) := by
  have hl := log2_le hm h
  have hr := rung_lt hm h
  have hs := sig hm h
  have e1 : Ieee.double.word neg (rung m) % 9223372036854775808 = rung m := by
    unfold Format.word; rw [sign_d]; split <;> omega
  have e2 : (Ieee.double.word neg (rung m) / 9223372036854775808 % 2 == 1) = neg := by
    unfold Format.word; rw [sign_d]
    cases neg
    · rw [if_neg (by simp)]; simp; omega
    · rw [if_pos rfl]; simp; omega
  unfold Format.read
  simp only [sign_d, binade_d, inf_d, least_d, e1, e2]
  rw [if_neg (by omega), if_pos (by omega)]
  have e3 : rung m % 4503599627370496 = m * 2 ^ (52 - m.log2) - 4503599627370496 := by unfold rung; omega
  have e4 : rung m / 4503599627370496 = m.log2 + 1023 := by unfold rung; omega
  rw [e3, e4]
  have e5 : 4503599627370496 + (m * 2 ^ (52 - m.log2) - 4503599627370496) = m * 2 ^ (52 - m.log2) := Nat.add_sub_cancel' hs.1
  have e6 : (-1074 : Int) + ((m.log2 + 1023 - 1 : Nat) : Int) = -((52 - m.log2 : Nat) : Int) := by omega
  rw [e5, e6]

theorem fl_nearest (n : Int) : fl n = Ieee.double.nearest (decide (n < 0)) n.natAbs 0 := rfl
theorem fl_zero : fl 0 = 0 := by decide +kernel
theorem fl_word {n : Int} (h0 : n ≠ 0) (h : n.natAbs < 9007199254740992) : fl n = Ieee.double.word (decide (n < 0)) (rung n.natAbs) := by
  have := nearest_whole (decide (n < 0)) n.natAbs 0 (by omega) h
  rw [Nat.pow_zero, Nat.mul_one, show -((0 : Nat) : Int) = 0 from rfl] at this
  rw [fl_nearest]
  exact this
/-- what the float of an integer reads as -/
theorem read_fl {n : Int} (h : n.natAbs < 9007199254740992) : ∃ k : Nat, Ieee.double.read (fl n) = .number (decide (n < 0)) (n.natAbs * 2 ^ k) (-(k : Int)) := by
  by_cases h0 : n = 0
  · subst h0
    exact ⟨1074, by rw [fl_zero]; decide +kernel⟩
  · exact ⟨_, by rw [fl_word h0 h]; exact read_whole _ _ (by omega) h⟩
/-- the float nearest to a whole number, however it is scaled -/
theorem write_fl {n : Int} (h : n.natAbs < 9007199254740992) (M : Nat) : Ieee.double.write (.number (decide (n < 0)) (n.natAbs * 2 ^ M) (-(M : Int))) = fl n := by
  by_cases h0 : n = 0
  · subst h0
    rw [fl_zero]
    show Ieee.double.nearest _ _ _ = _
    unfold Format.nearest
    rw [if_pos (by simp)]
    rfl
  · rw [fl_word h0 h]
    exact nearest_whole _ _ M (by omega) h
theorem signed_scaled (n : Int) (i j : Nat) : signed (decide (n < 0)) (n.natAbs * 2 ^ i) j = n * 2 ^ (i + j) := by
  unfold signed
  rw [Nat.shiftLeft_eq, Nat.mul_assoc, ← Nat.pow_add]
  by_cases h : n < 0
  · rw [if_pos (by simpa using h)]
    have : n = -(n.natAbs : Int) := by omega
    conv => rhs; rw [this]
    simp [Int.neg_mul]
  · rw [if_neg (by simpa using h)]
    have : n = (n.natAbs : Int) := by omega
    conv => rhs; rw [this]
    simp
theorem signed_scaled' (n : Int) (i j : Nat) : signed (!decide (n < 0)) (n.natAbs * 2 ^ i) j = -n * 2 ^ (i + j) := by
  have h := signed_scaled n i j
  unfold signed at *
  rw [Int.neg_mul]
  by_cases h0 : n < 0
  · simp only [h0, decide_true, Bool.not_true, if_true, Bool.false_eq_true, if_false] at *
    omega
  · simp only [h0, decide_false, Bool.not_false, if_true, Bool.false_eq_true, if_false] at *
    omega
theorem tot_nat (a : Int) (k : Nat) : (a * 2 ^ k).natAbs = a.natAbs * 2 ^ k := by
  rw [Int.natAbs_mul, Int.natAbs_pow]
  rfl
theorem pow_pos_int (k : Nat) : (0 : Int) < 2 ^ k := Int.pow_pos (by decide)
theorem tot_zero (a : Int) (k : Nat) : a * 2 ^ k = 0 ↔ a = 0 := by
  have := pow_pos_int k
  constructor
  · intro h
    rcases Int.mul_eq_zero.1 h with h | h
    · exact h
    · omega
  · rintro rfl; simp
theorem tot_neg (a : Int) (k : Nat) : a * 2 ^ k < 0 ↔ a < 0 := by
  have h := pow_pos_int k
  constructor
  · intro h1
    rcases Int.lt_or_le a 0 with h2 | h2
    · exact h2
    · have := Int.mul_nonneg h2 (Int.le_of_lt h)
      omega
  · intro h1
    exact Int.mul_neg_of_neg_of_pos h1 h
theorem sum_scaled (s t : Bool) (x y : Nat) (a b : Int) (i j : Nat) (hs : ∀ d, signed s x d = a * 2 ^ (i + d)) (ht : ∀ d, signed t y d = b * 2 ^ (j + d)) (h : a + b = 0 → (s && t) = false) (hr : (a + b).natAbs < 9007199254740992) :
    ((Datum.number s x (-(i : Int))).sum (.number t y (-(j : Int)))).map Ieee.double.write = some (fl (a + b)) := by
  have hm : min (-(i : Int)) (-(j : Int)) = -((max i j : Nat) : Int) := by omega
  have e1 : (-(i : Int) - -((max i j : Nat) : Int)).toNat = max i j - i := by omega
  have e2 : (-(j : Int) - -((max i j : Nat) : Int)).toNat = max i j - j := by omega
  simp only [Datum.sum, Option.map_some, hm, e1, e2, hs, ht]
  rw [show i + (max i j - i) = max i j by omega, show j + (max i j - j) = max i j by omega, ← Int.add_mul]
  congr 1
  rw [← write_fl hr (max i j), tot_nat]
  congr 2
  by_cases h0 : a + b = 0
  · rw [if_pos ((tot_zero _ _).2 h0), h h0, h0]; rfl
  · rw [if_neg (fun e => h0 ((tot_zero _ _).1 e))]
    simp only [tot_neg]
theorem add_fl {a b : Int} (ha : a.natAbs < 4503599627370496) (hb : b.natAbs < 4503599627370496) : floatBits .add .f64 (fl a) (fl b) = some (fl (a + b)) := by
  obtain ⟨i, hi⟩ := read_fl (n := a) (by omega)
  obtain ⟨j, hj⟩ := read_fl (n := b) (by omega)
  show ((Ieee.double.read _).sum (Ieee.double.read _)).map _ = _
  rw [hi, hj]
  refine sum_scaled _ _ _ _ a b i j (signed_scaled a i) (signed_scaled b j) (fun h => ?_) (by omega)
  simp only [Bool.and_eq_false_iff, decide_eq_false_iff_not]
  omega
theorem sub_fl {a b : Int} (ha : a.natAbs < 4503599627370496) (hb : b.natAbs < 4503599627370496) : floatBits .sub .f64 (fl a) (fl b) = some (fl (a - b)) := by
  obtain ⟨i, hi⟩ := read_fl (n := a) (by omega)
  obtain ⟨j, hj⟩ := read_fl (n := b) (by omega)
  show ((Ieee.double.read _).sum (Ieee.double.read _).opposite).map _ = _
  rw [hi, hj, show a - b = a + -b by omega]
  refine sum_scaled _ _ _ _ a (-b) i j (signed_scaled a i) (signed_scaled' b j) (fun h => ?_) (by omega)
  simp only [Bool.and_eq_false_iff, decide_eq_false_iff_not, Bool.not_eq_false', decide_eq_true_eq]
  omega
theorem compare_scaled (a b : Int) (k : Nat) : compare (a * 2 ^ k) (b * 2 ^ k) = compare a b := by
  have h := pow_pos_int k
  rcases Int.lt_trichotomy a b with h1 | rfl | h1
  · have h2 : a * 2 ^ k < b * 2 ^ k := Int.mul_lt_mul_of_pos_right h1 h
    show compareOfLessAndEq _ _ = compareOfLessAndEq _ _
    unfold compareOfLessAndEq
    rw [if_pos h1, if_pos h2]
  · show compareOfLessAndEq _ _ = compareOfLessAndEq _ _
    unfold compareOfLessAndEq
    rw [if_neg (Int.lt_irrefl _), if_pos rfl, if_neg (Int.lt_irrefl _), if_pos rfl]
  · have h2 : b * 2 ^ k < a * 2 ^ k := Int.mul_lt_mul_of_pos_right h1 h
    show compareOfLessAndEq _ _ = compareOfLessAndEq _ _
    unfold compareOfLessAndEq
    rw [if_neg (by omega), if_neg (by omega), if_neg (by omega), if_neg (by omega)]
/-- the order of floats of integers -/
theorem order_fl {a b : Int} (ha : a.natAbs < 9007199254740992) (hb : b.natAbs < 9007199254740992) : Ieee.double.order (fl a) (fl b) = some (compare a b) := by
  obtain ⟨i, hi⟩ := read_fl ha
  obtain ⟨j, hj⟩ := read_fl hb
  unfold Format.order
  rw [hi, hj]
  have hm : min (-(i : Int)) (-(j : Int)) = -((max i j : Nat) : Int) := by omega
  have e1 : (-(i : Int) - -((max i j : Nat) : Int)).toNat = max i j - i := by omega
  have e2 : (-(j : Int) - -((max i j : Nat) : Int)).toNat = max i j - j := by omega
  simp only [Datum.order, hm, e1, e2, signed_scaled]
  rw [show i + (max i j - i) = max i j by omega, show j + (max i j - j) = max i j by omega, compare_scaled]
theorem integral_fl {n : Int} (h : n.natAbs < 9007199254740992) : (Ieee.double.read (fl n)).integral .zero = .number (decide (n < 0)) n.natAbs 0 := by
  obtain ⟨k, hk⟩ := read_fl h
  rw [hk]
  have e : (-(k : Int)).toNat = 0 := by omega
  have e2 : (- -(k : Int)).toNat = k := by omega
  simp only [Datum.integral, e, e2, Nat.shiftLeft_zero]
  congr 1
  unfold Toward.cut
  simp only [Bool.toNat_false, Nat.add_zero, Nat.one_shiftLeft]
  by_cases h0 : n.natAbs = 0
  · rw [h0]; simp
  · rw [log2_mul h0, show min k (n.natAbs.log2 + k + 2) = k by omega, Nat.mul_div_cancel _ (Nat.two_pow_pos k)]
theorem toInt_fl {n : Int} (h : n.natAbs < 9007199254740992) : floatToIntVal .f64 (fl n) .i64 = some n := by
  have e : (FloatKind.f64.decode (fl n)).toInt .zero = some n := by
    show (Ieee.double.read (fl n)).toInt .zero = _
    unfold Datum.toInt
    rw [integral_fl h]
    have := signed_scaled n 0 0
    simp only [Nat.pow_zero, Nat.mul_one, Nat.add_zero, Int.pow_zero, Int.mul_one] at this
    simp only [this]
  unfold floatToIntVal
  rw [e]
  have : IntKind.i64.min ≤ n ∧ n ≤ IntKind.i64.max := by
    have h1 : IntKind.i64.min = -9223372036854775808 := by decide
    have h2 : IntKind.i64.max = 9223372036854775807 := by decide
    omega
  simp only [this, and_self, if_true]
theorem trunc_fl {n : Int} (h : n.natAbs < 9007199254740992) : FloatKind.f64.encode ((FloatKind.f64.decode (fl n)).integral .zero) = fl n := by
  show Ieee.double.write ((Ieee.double.read (fl n)).integral .zero) = _
  rw [integral_fl h]
  rfl
end Go.Proofs.Ytnjmnklkbldmgaa

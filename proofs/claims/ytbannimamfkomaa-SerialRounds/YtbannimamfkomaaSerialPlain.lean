/- The plain mathematics of sequence numbers that wrap around: the modulus that a number stands for, the successor, the distance, the window. No condition. -/
namespace Go.Proofs.Ytbannimamfkomaa
/-- The modulus that a number stands for. -/
def lim (m : Int) : Int := if m < 1 then 1 else if 1073741824 < m then 1073741824 else m
theorem lim_pos (m : Int) : 1 ≤ lim m := by unfold lim; split; omega; split <;> omega
theorem lim_le (m : Int) : lim m ≤ 1073741824 := by unfold lim; split; omega; split <;> omega
theorem lim_low {m : Int} (h : m < 1) : lim m = 1 := by unfold lim; rw [if_pos h]
theorem lim_high {m : Int} (h : 1073741824 < m) : lim m = 1073741824 := by unfold lim; rw [if_neg (by omega), if_pos h]
theorem lim_mid {m : Int} (h : 1 ≤ m) (k : m ≤ 1073741824) : lim m = m := by unfold lim; rw [if_neg (by omega), if_neg (by omega)]
def nxt (n m : Int) : Int := (n % lim m + 1) % lim m
def dst (a b m : Int) : Int := (b - a) % lim m
def inw (x low n m : Int) : Bool := decide (dst low x m < n)
theorem mod_lo (n m : Int) (h : 1 ≤ m) : 0 ≤ n % m := Int.emod_nonneg _ (by omega)
theorem mod_hi (n m : Int) (h : 1 ≤ m) : n % m < m := Int.emod_lt_of_pos _ (by omega)
theorem nxt_lo (n m : Int) : 0 ≤ nxt n m := mod_lo _ _ (lim_pos m)
theorem nxt_hi (n m : Int) : nxt n m < lim m := mod_hi _ _ (lim_pos m)
theorem dst_lo (a b m : Int) : 0 ≤ dst a b m := mod_lo _ _ (lim_pos m)
theorem dst_hi (a b m : Int) : dst a b m < lim m := mod_hi _ _ (lim_pos m)
theorem dst_eq (a b m : Int) : (b % lim m - a % lim m) % lim m = dst a b m := by unfold dst; rw [Int.sub_emod b a (lim m)]
/-- The remainder that is cut towards nought, and the one that is never negative. -/
theorem tmod_neg {n m : Int} (hm : 1 ≤ m) (h : n.tmod m < 0) : n % m = n.tmod m + m := by
  have a := Int.tmod_eq_emod (a := n) (b := m)
  have b := mod_lo n m hm
  have c := mod_hi n m hm
  split at a <;> omega
theorem tmod_pos {n m : Int} (hm : 1 ≤ m) (h : ¬ n.tmod m < 0) : n % m = n.tmod m := by
  have a := Int.tmod_eq_emod (a := n) (b := m)
  have b := mod_lo n m hm
  have c := mod_hi n m hm
  split at a <;> omega
theorem tmod_bd (n m : Int) (hm : 1 ≤ m) : -m ≤ n.tmod m ∧ n.tmod m < m := by
  by_cases h : n.tmod m < 0
  · have a := tmod_neg hm h; have b := mod_lo n m hm; have c := mod_hi n m hm; rw [a] at b c; omega
  · have a := tmod_pos hm h; have b := mod_lo n m hm; have c := mod_hi n m hm; rw [a] at b c; omega
end Go.Proofs.Ytbannimamfkomaa

/- Sequence numbers that wrap around: Next and Dist of package serial at every input. Condition: the numbers are of type int. -/
import Derived.Test.YtbalhpffdgbdgaaBytesRd
namespace Go.Proofs.Ytbalhpffdgbdgaa
open Go.RowKit
set_option linter.unusedVariables false

/-- The modulus that a number stands for. -/
def slim (m : Int) : Int := if m < 1 then 1 else if 1073741824 < m then 1073741824 else m
theorem slim_pos (m : Int) : 1 ≤ slim m := by unfold slim; split; omega; split <;> omega
theorem slim_le (m : Int) : slim m ≤ 1073741824 := by unfold slim; split; omega; split <;> omega
theorem slim_low {m : Int} (h : m < 1) : slim m = 1 := by unfold slim; rw [if_pos h]
theorem slim_high {m : Int} (h : 1073741824 < m) : slim m = 1073741824 := by unfold slim; rw [if_neg (by omega), if_pos h]
theorem slim_mid {m : Int} (h : 1 ≤ m) (k : m ≤ 1073741824) : slim m = m := by unfold slim; rw [if_neg (by omega), if_neg (by omega)]
def snxt (n m : Int) : Int := (n % slim m + 1) % slim m
def sdst (a b m : Int) : Int := (b - a) % slim m
def sinw (x low n m : Int) : Bool := decide (sdst low x m < n)
theorem mod_lo (n m : Int) (h : 1 ≤ m) : 0 ≤ n % m := Int.emod_nonneg _ (by omega)
theorem mod_hi (n m : Int) (h : 1 ≤ m) : n % m < m := Int.emod_lt_of_pos _ (by omega)
theorem snxt_lo (n m : Int) : 0 ≤ snxt n m := mod_lo _ _ (slim_pos m)
theorem snxt_hi (n m : Int) : snxt n m < slim m := mod_hi _ _ (slim_pos m)
theorem sdst_lo (a b m : Int) : 0 ≤ sdst a b m := mod_lo _ _ (slim_pos m)
theorem sdst_hi (a b m : Int) : sdst a b m < slim m := mod_hi _ _ (slim_pos m)
theorem sdst_eq (a b m : Int) : (b % slim m - a % slim m) % slim m = sdst a b m := by unfold sdst; rw [Int.sub_emod b a (slim m)]
/-- The remainder that is cut towards nought, and the one that is never negative. -/
theorem tmod_neg {n m : Int} (hm : 1 ≤ m) (h : n.tmod m < 0) : n % m = n.tmod m + m := by
  have a := Int.tmod_eq_emod (a := n) (b := m)
  have b := mod_lo n m hm
  have c := mod_hi n m hm
  split at a <;> omega
theorem tmod_pos {n m : Int} (hm : 1 ≤ m) (h : ¬ n.tmod m < 0) : n % m = n.tmod m := by
  have a := Int.tmod_eq_emod (a := n) (b := m)
  have b := mod_lo n m hm
  have c := mod_hi n m hm
  split at a <;> omega
theorem tmod_bd (n m : Int) (hm : 1 ≤ m) : -m ≤ n.tmod m ∧ n.tmod m < m := by
  by_cases h : n.tmod m < 0
  · have a := tmod_neg hm h; have b := mod_lo n m hm; have c := mod_hi n m hm; rw [a] at b c; omega
  · have a := tmod_pos hm h; have b := mod_lo n m hm; have c := mod_hi n m hm; rw [a] at b c; omega
/-- A number of type int. -/
def I64 (n : Int) : Prop := -9223372036854775808 ≤ n ∧ n ≤ 9223372036854775807
theorem ret_bool {a b : Bool} (h : a = b) : Ending.returned (.bool a) = .returned (.bool b) := by rw [h]

set_option maxHeartbeats 400000 in
theorem serLimit_calls (m : Int) (w : World) (hm : I64 m) :
    Calls Try.prog 31 #[.int .i64 m] w fun e w' => e = .returned (.int .i64 (slim m)) ∧ w = w' := by
  obtain ⟨h1, h2⟩ := hm
  by_cases c1 : m < 1
  · rw [slim_low c1]
    go_enter Try.func31, Try.ntmps31
    go_wp2
    go_ret
    exact ⟨ret_int (by omega), rfl⟩
  · by_cases c2 : 1073741824 < m
    · rw [slim_high c2]
      go_enter Try.func31, Try.ntmps31
      go_wp2
      go_ret
      exact ⟨ret_int (by omega), rfl⟩
    · rw [slim_mid (by omega) (by omega)]
      go_enter Try.func31, Try.ntmps31
      go_wp2
      go_ret
      exact ⟨ret_int (by omega), rfl⟩

set_option maxHeartbeats 400000 in
theorem serResidue_calls (n m : Int) (w : World) (hn : I64 n) (h1 : 1 ≤ m) (h2 : m ≤ 1073741824) :
    Calls Try.prog 32 #[.int .i64 n, .int .i64 m] w fun e w' => e = .returned (.int .i64 (n % m)) ∧ w = w' := by
  obtain ⟨h3, h4⟩ := hn
  obtain ⟨b1, b2⟩ := tmod_bd n m h1
  by_cases c : n.tmod m < 0
  · rw [tmod_neg h1 c]
    by_cases p : 0 ≤ n
    · exfalso; rw [Int.tmod_eq_emod_of_nonneg p] at c; have := mod_lo n m h1; omega
    go_enter Try.func32, Try.ntmps32
    go_wp2
    go_ret
    exact ⟨rfl, rfl⟩
  · by_cases p : 0 ≤ n
    · have q := mod_lo n m h1
      clear c b1 b2
      go_enter Try.func32, Try.ntmps32
      go_wp2
      go_ret
      exact ⟨rfl, rfl⟩
    · rw [tmod_pos h1 c]
      go_enter Try.func32, Try.ntmps32
      go_wp2
      go_ret
      exact ⟨rfl, rfl⟩

set_option maxHeartbeats 400000 in
theorem serNext_calls (n m : Int) (w : World) (hn : I64 n) (hm : I64 m) :
    Calls Try.prog 33 #[.int .i64 n, .int .i64 m] w fun e w' => e = .returned (.int .i64 (snxt n m)) ∧ w = w' := by
  have l1 := slim_pos m
  have l2 := slim_le m
  have g1 := mod_lo n (slim m) l1
  have g2 := mod_hi n (slim m) l1
  unfold snxt
  go_enter Try.func33, Try.ntmps33
  go_wp2_with fail
  refine (serLimit_calls m _ hm).mono ?_
  rintro e w' ⟨rfl, rfl⟩
  go_wp2_with fail
  refine (serResidue_calls n (slim m) _ hn l1 l2).mono ?_
  rintro e w' ⟨rfl, rfl⟩
  go_wp2
  go_ret
  exact ⟨rfl, rfl⟩

set_option maxHeartbeats 400000 in
theorem serDist_calls (a b m : Int) (w : World) (ha : I64 a) (hb : I64 b) (hm : I64 m) :
    Calls Try.prog 23 #[.int .i64 a, .int .i64 b, .int .i64 m] w fun e w' => e = .returned (.int .i64 (sdst a b m)) ∧ w = w' := by
  have l1 := slim_pos m
  have l2 := slim_le m
  have g1 := mod_lo a (slim m) l1
  have g2 := mod_hi a (slim m) l1
  have g3 := mod_lo b (slim m) l1
  have g4 := mod_hi b (slim m) l1
  unfold sdst
  go_enter Try.func23, Try.ntmps23
  go_wp2_with fail
  refine (serLimit_calls m _ hm).mono ?_
  rintro e w' ⟨rfl, rfl⟩
  go_wp2_with fail
  refine (serResidue_calls b (slim m) _ hb l1 l2).mono ?_
  rintro e w' ⟨rfl, rfl⟩
  go_wp2_with fail
  refine (serResidue_calls a (slim m) _ ha l1 l2).mono ?_
  rintro e w' ⟨rfl, rfl⟩
  go_wp2_with fail
  refine (serResidue_calls (b % slim m - a % slim m) (slim m) _ (by unfold I64; omega) l1 l2).mono ?_
  rintro e w' ⟨rfl, rfl⟩
  go_wp2
  go_ret
  exact ⟨rfl, rfl⟩

end Go.Proofs.Ytbalhpffdgbdgaa

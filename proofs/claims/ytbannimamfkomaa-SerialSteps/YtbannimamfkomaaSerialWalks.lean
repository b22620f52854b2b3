/- What the functions of package serial, and the reference's, return at every input: each call's contract, taken off the translated text. Condition: the numbers are of type int. -/
import Derived.Test.YtbannimamfkomaaRows
import Derived.Test.YtbannimamfkomaaSerialPlain
import Derived.WalkKit
import Derived.WalkLawsBesides
import Derived.ProofKit
import Derived.OpenShut
import Derived.Lib.Hide
namespace Go.Proofs.Ytbannimamfkomaa
open Go.RowKit
set_option linter.unusedVariables false

/-- A number of type int. -/
def I64 (n : Int) : Prop := -9223372036854775808 ≤ n ∧ n ≤ 9223372036854775807
theorem ret_int {k : IntKind} {a b : Int} (h : a = b) : Ending.returned (.int k a) = .returned (.int k b) := by rw [h]
theorem ret_bool {a b : Bool} (h : a = b) : Ending.returned (.bool a) = .returned (.bool b) := by rw [h]

set_option maxHeartbeats 400000 in
theorem limit_calls (m : Int) (w : World) (hm : I64 m) :
    Calls Try.prog 15 #[.int .i64 m] w fun e w' => e = .returned (.int .i64 (lim m)) ∧ w = w' := by
  obtain ⟨h1, h2⟩ := hm
  by_cases c1 : m < 1
  · rw [lim_low c1]
    go_enter Try.func15, Try.ntmps15
    go_wp2
    go_ret
    exact ⟨ret_int (by omega), rfl⟩
  · by_cases c2 : 1073741824 < m
    · rw [lim_high c2]
      go_enter Try.func15, Try.ntmps15
      go_wp2
      go_ret
      exact ⟨ret_int (by omega), rfl⟩
    · rw [lim_mid (by omega) (by omega)]
      go_enter Try.func15, Try.ntmps15
      go_wp2
      go_ret
      exact ⟨ret_int (by omega), rfl⟩

set_option maxHeartbeats 400000 in
theorem residue_calls (n m : Int) (w : World) (hn : I64 n) (h1 : 1 ≤ m) (h2 : m ≤ 1073741824) :
    Calls Try.prog 16 #[.int .i64 n, .int .i64 m] w fun e w' => e = .returned (.int .i64 (n % m)) ∧ w = w' := by
  obtain ⟨h3, h4⟩ := hn
  obtain ⟨b1, b2⟩ := tmod_bd n m h1
  by_cases c : n.tmod m < 0
  · rw [tmod_neg h1 c]
    by_cases p : 0 ≤ n
    · exfalso; rw [Int.tmod_eq_emod_of_nonneg p] at c; have := mod_lo n m h1; omega
    go_enter Try.func16, Try.ntmps16
    go_wp2
    go_ret
    exact ⟨rfl, rfl⟩
  · by_cases p : 0 ≤ n
    · have q := mod_lo n m h1
      clear c b1 b2
      go_enter Try.func16, Try.ntmps16
      go_wp2
      go_ret
      exact ⟨rfl, rfl⟩
    · rw [tmod_pos h1 c]
      go_enter Try.func16, Try.ntmps16
      go_wp2
      go_ret
      exact ⟨rfl, rfl⟩

set_option maxHeartbeats 400000 in
theorem next_calls (n m : Int) (w : World) (hn : I64 n) (hm : I64 m) :
    Calls Try.prog 9 #[.int .i64 n, .int .i64 m] w fun e w' => e = .returned (.int .i64 (nxt n m)) ∧ w = w' := by
  have l1 := lim_pos m
  have l2 := lim_le m
  have g1 := mod_lo n (lim m) l1
  have g2 := mod_hi n (lim m) l1
  unfold nxt
  go_enter Try.func9, Try.ntmps9
  go_wp2_with fail
  refine (limit_calls m _ hm).mono ?_
  rintro e w' ⟨rfl, rfl⟩
  go_wp2_with fail
  refine (residue_calls n (lim m) _ hn l1 l2).mono ?_
  rintro e w' ⟨rfl, rfl⟩
  go_wp2
  go_ret
  exact ⟨rfl, rfl⟩

set_option maxHeartbeats 400000 in
theorem dist_calls (a b m : Int) (w : World) (ha : I64 a) (hb : I64 b) (hm : I64 m) :
    Calls Try.prog 11 #[.int .i64 a, .int .i64 b, .int .i64 m] w fun e w' => e = .returned (.int .i64 (dst a b m)) ∧ w = w' := by
  have l1 := lim_pos m
  have l2 := lim_le m
  have g1 := mod_lo a (lim m) l1
  have g2 := mod_hi a (lim m) l1
  have g3 := mod_lo b (lim m) l1
  have g4 := mod_hi b (lim m) l1
  unfold dst
  go_enter Try.func11, Try.ntmps11
  go_wp2_with fail
  refine (limit_calls m _ hm).mono ?_
  rintro e w' ⟨rfl, rfl⟩
  go_wp2_with fail
  refine (residue_calls b (lim m) _ hb l1 l2).mono ?_
  rintro e w' ⟨rfl, rfl⟩
  go_wp2_with fail
  refine (residue_calls a (lim m) _ ha l1 l2).mono ?_
  rintro e w' ⟨rfl, rfl⟩
  go_wp2_with fail
  refine (residue_calls (b % lim m - a % lim m) (lim m) _ (by unfold I64; omega) l1 l2).mono ?_
  rintro e w' ⟨rfl, rfl⟩
  go_wp2
  go_ret
  exact ⟨rfl, rfl⟩

set_option maxHeartbeats 400000 in
theorem in_calls (x low n m : Int) (w : World) (hx : I64 x) (hl : I64 low) (hm : I64 m) :
    Calls Try.prog 13 #[.int .i64 x, .int .i64 low, .int .i64 n, .int .i64 m] w fun e w' => e = .returned (.bool (inw x low n m)) ∧ w = w' := by
  unfold inw
  go_enter Try.func13, Try.ntmps13
  go_wp2_with fail
  refine (dist_calls low x m _ hl hx hm).mono ?_
  rintro e w' ⟨rfl, rfl⟩
  go_wp2
  go_ret
  exact ⟨rfl, rfl⟩

set_option maxHeartbeats 400000 in
theorem alive_calls (w : World) : Calls Try.prog 8 #[] w fun e w' => e = .returned (.bool true) ∧ w = w' := by
  have e1 : nxt 7 8 = 0 := by decide
  have e2 : dst 7 1 8 = 2 := by decide
  have e3 : inw 1 7 3 8 = true := by decide
  have k1 := fun w => next_calls 7 8 w (by unfold I64; omega) (by unfold I64; omega)
  have k2 := fun w => dist_calls 7 1 8 w (by unfold I64; omega) (by unfold I64; omega) (by unfold I64; omega)
  have k3 := fun w => in_calls 1 7 3 8 w (by unfold I64; omega) (by unfold I64; omega) (by unfold I64; omega)
  rw [e1] at k1; rw [e2] at k2; rw [e3] at k3
  have K1 := Lib.hid k1
  have K2 := Lib.hid k2
  have K3 := Lib.hid k3
  clear k1 k2 k3 e1 e2 e3
  go_enter Try.func8, Try.ntmps8
  go_wp2_with fail
  refine (K1.out _).mono ?_
  rintro e w' ⟨rfl, rfl⟩
  go_wp2_with fail
  refine (K2.out _).mono ?_
  rintro e w' ⟨rfl, rfl⟩
  go_wp2_with fail
  refine (K3.out _).mono ?_
  rintro e w' ⟨rfl, rfl⟩
  go_wp2
  go_ret
  exact ⟨rfl, rfl⟩
end Go.Proofs.Ytbannimamfkomaa

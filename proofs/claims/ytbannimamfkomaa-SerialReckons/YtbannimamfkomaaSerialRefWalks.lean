/- What the reference's functions on sequence numbers return at every input: each call's contract, taken off the translated text. Condition: the numbers are of type int. -/
import Derived.Test.YtbannimamfkomaaSerialWalks
namespace Go.Proofs.Ytbannimamfkomaa
open Go.RowKit
set_option linter.unusedVariables false

set_option maxHeartbeats 400000 in
theorem refCut_calls (m : Int) (w : World) :
    Calls Try.prog 18 #[.int .i64 m, .int .i64 1, .int .i64 1073741824] w fun e w' => e = .returned (.int .i64 (lim m)) ∧ w = w' := by
  by_cases c1 : m < 1
  · rw [lim_low c1]
    go_enter Try.func18, Try.ntmps18
    go_wp2
    go_ret
    exact ⟨rfl, rfl⟩
  · by_cases c2 : 1073741824 < m
    · rw [lim_high c2]
      go_enter Try.func18, Try.ntmps18
      go_wp2
      go_ret
      exact ⟨rfl, rfl⟩
    · rw [lim_mid (by omega) (by omega)]
      go_enter Try.func18, Try.ntmps18
      go_wp2
      go_ret
      exact ⟨rfl, rfl⟩

set_option maxHeartbeats 400000 in
theorem refMod_calls (n m : Int) (w : World) (hn : I64 n) :
    Calls Try.prog 17 #[.int .i64 n, .int .i64 m] w fun e w' => e = .returned (.int .i64 (n % lim m)) ∧ w = w' := by
  obtain ⟨h3, h4⟩ := hn
  have h1 := lim_pos m
  have h2 := lim_le m
  obtain ⟨b1, b2⟩ := tmod_bd n (lim m) h1
  by_cases p : 0 ≤ n
  · have q := mod_lo n (lim m) h1
    clear b1 b2
    go_enter Try.func17, Try.ntmps17
    go_wp2_with fail
    refine (refCut_calls m _).mono ?_
    rintro e w' ⟨rfl, rfl⟩
    go_wp2
    go_ret
    exact ⟨rfl, rfl⟩
  · by_cases c : n.tmod (lim m) < 0
    · rw [tmod_neg h1 c]
      go_enter Try.func17, Try.ntmps17
      go_wp2_with fail
      refine (refCut_calls m _).mono ?_
      rintro e w' ⟨rfl, rfl⟩
      go_wp2
      go_ret
      exact ⟨rfl, rfl⟩
    · rw [tmod_pos h1 c]
      go_enter Try.func17, Try.ntmps17
      go_wp2_with fail
      refine (refCut_calls m _).mono ?_
      rintro e w' ⟨rfl, rfl⟩
      go_wp2
      go_ret
      exact ⟨rfl, rfl⟩

set_option maxHeartbeats 400000 in
theorem refNext_calls (n m : Int) (w : World) (hn : I64 n) :
    Calls Try.prog 10 #[.int .i64 n, .int .i64 m] w fun e w' => e = .returned (.int .i64 (nxt n m)) ∧ w = w' := by
  have l1 := lim_pos m
  have l2 := lim_le m
  have g1 := mod_lo n (lim m) l1
  have g2 := mod_hi n (lim m) l1
  unfold nxt
  go_enter Try.func10, Try.ntmps10
  go_wp2_with fail
  refine (refMod_calls n m _ hn).mono ?_
  rintro e w' ⟨rfl, rfl⟩
  go_wp2_with fail
  refine (refMod_calls (n % lim m + 1) m _ (by unfold I64; omega)).mono ?_
  rintro e w' ⟨rfl, rfl⟩
  go_wp2
  go_ret
  exact ⟨ret_int (by simp), rfl⟩

set_option maxHeartbeats 400000 in
theorem refDist_calls (a b m : Int) (w : World) (ha : I64 a) (hb : I64 b) :
    Calls Try.prog 12 #[.int .i64 a, .int .i64 b, .int .i64 m] w fun e w' => e = .returned (.int .i64 (dst a b m)) ∧ w = w' := by
  have l1 := lim_pos m
  have l2 := lim_le m
  have g1 := mod_lo a (lim m) l1
  have g2 := mod_hi a (lim m) l1
  have g3 := mod_lo b (lim m) l1
  have g4 := mod_hi b (lim m) l1
  unfold dst
  go_enter Try.func12, Try.ntmps12
  go_wp2_with fail
  refine (refMod_calls b m _ hb).mono ?_
  rintro e w' ⟨rfl, rfl⟩
  go_wp2_with fail
  refine (refMod_calls a m _ ha).mono ?_
  rintro e w' ⟨rfl, rfl⟩
  go_wp2_with fail
  refine (refMod_calls (b % lim m - a % lim m) m _ (by unfold I64; omega)).mono ?_
  rintro e w' ⟨rfl, rfl⟩
  go_wp2
  go_ret
  exact ⟨rfl, rfl⟩

set_option maxHeartbeats 400000 in
theorem refIn_calls (x low n m : Int) (w : World) (hx : I64 x) (hl : I64 low) :
    Calls Try.prog 14 #[.int .i64 x, .int .i64 low, .int .i64 n, .int .i64 m] w fun e w' => e = .returned (.bool (inw x low n m)) ∧ w = w' := by
  unfold inw
  go_enter Try.func14, Try.ntmps14
  go_wp2_with fail
  refine (refDist_calls low x m _ hl hx).mono ?_
  rintro e w' ⟨rfl, rfl⟩
  go_wp2
  go_ret
  exact ⟨rfl, rfl⟩
end Go.Proofs.Ytbannimamfkomaa

/- Sequence numbers that wrap around: the reference's Next at every input. Condition: the numbers are of type int. -/
import Derived.Test.YtdidmpimlodffaaG3
namespace Go.Proofs.Ytdidmpimlodffaa
open Go.RowKit
set_option linter.unusedVariables false

set_option maxHeartbeats 400000 in
theorem refCut_calls (m : Int) (w : World) :
    Calls Try.prog 85 #[.int .i64 m, .int .i64 1, .int .i64 1073741824] w fun e w' => e = .returned (.int .i64 (slim m)) ∧ w = w' := by
  by_cases c1 : m < 1
  · rw [slim_low c1]
    go_enter Try.func85, Try.ntmps85
    go_wp2
    go_ret
    exact ⟨rfl, rfl⟩
  · by_cases c2 : 1073741824 < m
    · rw [slim_high c2]
      go_enter Try.func85, Try.ntmps85
      go_wp2
      go_ret
      exact ⟨rfl, rfl⟩
    · rw [slim_mid (by omega) (by omega)]
      go_enter Try.func85, Try.ntmps85
      go_wp2
      go_ret
      exact ⟨rfl, rfl⟩

set_option maxHeartbeats 400000 in
theorem refMod_calls (n m : Int) (w : World) (hn : I64 n) :
    Calls Try.prog 55 #[.int .i64 n, .int .i64 m] w fun e w' => e = .returned (.int .i64 (n % slim m)) ∧ w = w' := by
  obtain ⟨h3, h4⟩ := hn
  have h1 := slim_pos m
  have h2 := slim_le m
  obtain ⟨b1, b2⟩ := tmod_bd n (slim m) h1
  by_cases p : 0 ≤ n
  · have q := mod_lo n (slim m) h1
    clear b1 b2
    go_enter Try.func55, Try.ntmps55
    go_wp2_with fail
    refine (refCut_calls m _).mono ?_
    rintro e w' ⟨rfl, rfl⟩
    go_wp2
    go_ret
    exact ⟨rfl, rfl⟩
  · by_cases c : n.tmod (slim m) < 0
    · rw [tmod_neg h1 c]
      go_enter Try.func55, Try.ntmps55
      go_wp2_with fail
      refine (refCut_calls m _).mono ?_
      rintro e w' ⟨rfl, rfl⟩
      go_wp2
      go_ret
      exact ⟨rfl, rfl⟩
    · rw [tmod_pos h1 c]
      go_enter Try.func55, Try.ntmps55
      go_wp2_with fail
      refine (refCut_calls m _).mono ?_
      rintro e w' ⟨rfl, rfl⟩
      go_wp2
      go_ret
      exact ⟨rfl, rfl⟩

set_option maxHeartbeats 400000 in
theorem refNext_calls (n m : Int) (w : World) (hn : I64 n) :
    Calls Try.prog 58 #[.int .i64 n, .int .i64 m] w fun e w' => e = .returned (.int .i64 (snxt n m)) ∧ w = w' := by
  have l1 := slim_pos m
  have l2 := slim_le m
  have g1 := mod_lo n (slim m) l1
  have g2 := mod_hi n (slim m) l1
  unfold snxt
  go_enter Try.func58, Try.ntmps58
  go_wp2_with fail
  refine (refMod_calls n m _ hn).mono ?_
  rintro e w' ⟨rfl, rfl⟩
  go_wp2_with fail
  refine (refMod_calls (n % slim m + 1) m _ (by unfold I64; omega)).mono ?_
  rintro e w' ⟨rfl, rfl⟩
  go_wp2
  go_ret
  exact ⟨ret_int (by simp), rfl⟩

end Go.Proofs.Ytdidmpimlodffaa

/- The law RequestAgrees returns true at every input: two ends that know each other's request select one line. No condition. -/
import Derived.Test.YthjkeodjaggggaaReqWalks
namespace Go.Proofs.Ythjkeodjaggggaa
open Go.RowKit
set_option linter.unusedVariables false
set_option maxHeartbeats 2000000 in
theorem RequestAgrees_walk (a b c : Int) (wa : (Lit.int .i64 a).wf = true) (wb : (Lit.int .i64 b).wf = true) (wc : (Lit.int .i64 c).wf = true) (w : World) :
    Calls Try.prog 4 #[.int .i64 a, .int .i64 b, .int .i64 c] w fun e w' => e = .returned (.bool true) ∧ Grown w w' := by
  have ha : I64 a := bounds_i64 wa
  have hb : I64 b := bounds_i64 wb
  have hc : I64 c := bounds_i64 wc
  clear wa wb wc
  by_cases c0 : a < 0
  · go_enter Try.func4, Try.ntmps4
    go_wp2_with fail
    refine (alive_calls _).mono ?_
    rintro e w' ⟨rfl, rfl⟩
    go_wp2
    go_ret
    exact ⟨rfl, Grown.refl _⟩
  by_cases c1 : 8 < a
  · go_enter Try.func4, Try.ntmps4
    go_wp2_with fail
    refine (alive_calls _).mono ?_
    rintro e w' ⟨rfl, rfl⟩
    go_wp2
    go_ret
    exact ⟨rfl, Grown.refl _⟩
  by_cases c2 : b < 0
  · go_enter Try.func4, Try.ntmps4
    go_wp2_with fail
    refine (alive_calls _).mono ?_
    rintro e w' ⟨rfl, rfl⟩
    go_wp2
    go_ret
    exact ⟨rfl, Grown.refl _⟩
  by_cases c3 : 8 < b
  · go_enter Try.func4, Try.ntmps4
    go_wp2_with fail
    refine (alive_calls _).mono ?_
    rintro e w' ⟨rfl, rfl⟩
    go_wp2
    go_ret
    exact ⟨rfl, Grown.refl _⟩
  by_cases c4 : c < 0
  · go_enter Try.func4, Try.ntmps4
    go_wp2_with fail
    refine (alive_calls _).mono ?_
    rintro e w' ⟨rfl, rfl⟩
    go_wp2
    go_ret
    exact ⟨rfl, Grown.refl _⟩
  by_cases c5 : 8 < c
  · go_enter Try.func4, Try.ntmps4
    go_wp2_with fail
    refine (alive_calls _).mono ?_
    rintro e w' ⟨rfl, rfl⟩
    go_wp2
    go_ret
    exact ⟨rfl, Grown.refl _⟩
  have m1 : win b a = win a b := win_swap b a
  have m2 : win a a = a := by rw [win_mid (by omega) (by omega) (by omega) (by omega)]; omega
  have d1 := win_bd a b
  have d2 := win_bd b c
  have m3 : win a (win b c) = win (win a b) c := by
    rw [win_mid (a := b) (b := c) (by omega) (by omega) (by omega) (by omega), win_mid (a := a) (b := b) (by omega) (by omega) (by omega) (by omega), win_mid (by omega) (by omega) (by omega) (by omega), win_mid (by omega) (by omega) (by omega) (by omega)]; omega
  have K1 := Lib.hid (fun w => wins_calls a b w ha hb)
  have k2 := fun w => wins_calls b a w hb ha
  rw [m1] at k2
  have K2 := Lib.hid k2
  have k3 := fun w => wins_calls a a w ha ha
  rw [m2] at k3
  have K3 := Lib.hid k3
  have K4 := Lib.hid (fun w => wins_calls b c w hb hc)
  have k5 := fun w => wins_calls a (win b c) w ha (by unfold I64; omega)
  rw [m3] at k5
  have K5 := Lib.hid k5
  have K6 := Lib.hid (fun w => wins_calls (win a b) c w (by unfold I64; omega) hc)
  have K7 := Lib.hid (fun w => line_calls (win a b) w (by unfold I64; omega))
  clear k2 k3 k5 m1 m2 m3
  go_enter Try.func4, Try.ntmps4
  go_wp2_with fail
  refine (alive_calls _).mono ?_
  rintro e w' ⟨rfl, rfl⟩
  go_wp2_with fail
  refine (K1.out _).mono ?_
  rintro e w' ⟨rfl, rfl⟩
  go_wp2_with fail
  refine (K2.out _).mono ?_
  rintro e w' ⟨rfl, rfl⟩
  go_wp2_with fail
  refine (K3.out _).mono ?_
  rintro e w' ⟨rfl, rfl⟩
  go_wp2_with fail
  refine (K4.out _).mono ?_
  rintro e w' ⟨rfl, rfl⟩
  go_wp2_with fail
  refine (K5.out _).mono ?_
  rintro e w' ⟨rfl, rfl⟩
  go_wp2_with fail
  refine (K1.out _).mono ?_
  rintro e w' ⟨rfl, rfl⟩
  go_wp2_with fail
  refine (K6.out _).mono ?_
  rintro e w' ⟨rfl, rfl⟩
  go_wp2_with fail
  refine (K1.out _).mono ?_
  rintro e w' ⟨rfl, rfl⟩
  go_wp2_with fail
  refine (K7.out _).mono ?_
  rintro e w' ⟨rfl, rfl⟩
  go_wp2_with fail
  refine (K2.out _).mono ?_
  rintro e w' ⟨rfl, rfl⟩
  go_wp2_with fail
  refine (K7.out _).mono ?_
  rintro e w' ⟨rfl, rfl⟩
  go_wp2
  go_ret
  exact ⟨rfl, Grown.refl _⟩
end Go.Proofs.Ythjkeodjaggggaa

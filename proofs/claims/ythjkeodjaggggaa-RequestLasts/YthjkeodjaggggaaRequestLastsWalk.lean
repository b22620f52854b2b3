/- The law RequestLasts returns true at every input: a request that wins over another one wins over all that one wins over. No condition. -/
import Derived.Test.YthjkeodjaggggaaReqWalks
namespace Go.Proofs.Ythjkeodjaggggaa
open Go.RowKit
set_option linter.unusedVariables false
set_option maxHeartbeats 2000000 in
theorem RequestLasts_walk (a b c : Int) (wa : (Lit.int .i64 a).wf = true) (wb : (Lit.int .i64 b).wf = true) (wc : (Lit.int .i64 c).wf = true) (w : World) :
    Calls Try.prog 6 #[.int .i64 a, .int .i64 b, .int .i64 c] w fun e w' => e = .returned (.bool true) ∧ Grown w w' := by
  have ha : I64 a := bounds_i64 wa
  have hb : I64 b := bounds_i64 wb
  have hc : I64 c := bounds_i64 wc
  clear wa wb wc
  by_cases c0 : a < 0
  · go_enter Try.func6, Try.ntmps6
    go_wp2_with fail
    refine (alive_calls _).mono ?_
    rintro e w' ⟨rfl, rfl⟩
    go_wp2
    go_ret
    exact ⟨rfl, Grown.refl _⟩
  by_cases c1 : 8 < a
  · go_enter Try.func6, Try.ntmps6
    go_wp2_with fail
    refine (alive_calls _).mono ?_
    rintro e w' ⟨rfl, rfl⟩
    go_wp2
    go_ret
    exact ⟨rfl, Grown.refl _⟩
  by_cases c2 : b < 0
  · go_enter Try.func6, Try.ntmps6
    go_wp2_with fail
    refine (alive_calls _).mono ?_
    rintro e w' ⟨rfl, rfl⟩
    go_wp2
    go_ret
    exact ⟨rfl, Grown.refl _⟩
  by_cases c3 : 8 < b
  · go_enter Try.func6, Try.ntmps6
    go_wp2_with fail
    refine (alive_calls _).mono ?_
    rintro e w' ⟨rfl, rfl⟩
    go_wp2
    go_ret
    exact ⟨rfl, Grown.refl _⟩
  by_cases c4 : c < 0
  · go_enter Try.func6, Try.ntmps6
    go_wp2_with fail
    refine (alive_calls _).mono ?_
    rintro e w' ⟨rfl, rfl⟩
    go_wp2
    go_ret
    exact ⟨rfl, Grown.refl _⟩
  by_cases c5 : 8 < c
  · go_enter Try.func6, Try.ntmps6
    go_wp2_with fail
    refine (alive_calls _).mono ?_
    rintro e w' ⟨rfl, rfl⟩
    go_wp2
    go_ret
    exact ⟨rfl, Grown.refl _⟩
  have m1 : win a b = max a b := win_mid (by omega) (by omega) (by omega) (by omega)
  have m2 : win b c = max b c := win_mid (by omega) (by omega) (by omega) (by omega)
  have m3 : win a c = max a c := win_mid (by omega) (by omega) (by omega) (by omega)
  have d1 := win_bd a b
  have d2 := win_bd b c
  have K1 := Lib.hid (fun w => wins_calls a b w ha hb)
  have K2 := Lib.hid (fun w => wins_calls b c w hb hc)
  have K3 := Lib.hid (fun w => wins_calls a c w ha hc)
  have KA := Lib.hid (fun w => alive_calls w)
  by_cases e1 : win a b = a
  · by_cases e2 : win b c = b
    · have e3 : win a c = a := by omega
      clear m1 m2 m3
      rw [e1] at K1; rw [e2] at K2; rw [e3] at K3
      clear e1 e2 e3
      go_enter Try.func6, Try.ntmps6
      go_wp2_with fail
      refine (KA.out _).mono ?_
      rintro e w' ⟨rfl, rfl⟩
      go_wp2_with fail
      refine (K1.out _).mono ?_
      rintro e w' ⟨rfl, rfl⟩
      go_wp2_with fail
      refine (K2.out _).mono ?_
      rintro e w' ⟨rfl, rfl⟩
      go_wp2_with fail
      refine (K3.out _).mono ?_
      rintro e w' ⟨rfl, rfl⟩
      go_wp2
      go_ret
      exact ⟨rfl, Grown.refl _⟩
    · clear m1 m2 m3
      rw [e1] at K1
      clear e1
      generalize win b c = x at *
      go_enter Try.func6, Try.ntmps6
      go_wp2_with fail
      refine (KA.out _).mono ?_
      rintro e w' ⟨rfl, rfl⟩
      go_wp2_with fail
      refine (K1.out _).mono ?_
      rintro e w' ⟨rfl, rfl⟩
      go_wp2_with fail
      refine (K2.out _).mono ?_
      rintro e w' ⟨rfl, rfl⟩
      go_wp2
      go_ret
      exact ⟨rfl, Grown.refl _⟩
  · clear m1 m2 m3
    generalize win a b = x at *
    go_enter Try.func6, Try.ntmps6
    go_wp2_with fail
    refine (KA.out _).mono ?_
    rintro e w' ⟨rfl, rfl⟩
    go_wp2_with fail
    refine (K1.out _).mono ?_
    rintro e w' ⟨rfl, rfl⟩
    go_wp2
    go_ret
    exact ⟨rfl, Grown.refl _⟩
end Go.Proofs.Ythjkeodjaggggaa

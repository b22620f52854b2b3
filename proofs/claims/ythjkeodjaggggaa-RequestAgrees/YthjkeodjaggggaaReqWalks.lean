/- What the functions of package request, and the reference's, return at every input: each call's contract, taken off the translated text. Condition: the numbers are of type int. -/
import Derived.Test.YthjkeodjaggggaaRows
import Derived.Test.YthjkeodjaggggaaReqPlain
import Derived.WalkKit
import Derived.WalkLawsBesides
import Derived.ProofKit
import Derived.OpenShut
import Derived.Lib.Hide
namespace Go.Proofs.Ythjkeodjaggggaa
open Go.RowKit
set_option linter.unusedVariables false

/-- A number of type int. -/
def I64 (n : Int) : Prop := -9223372036854775808 ≤ n ∧ n ≤ 9223372036854775807

set_option maxHeartbeats 800000 in
theorem local_calls (c v s : Int) (w : World) (hc : I64 c) (hv : I64 v) (hs : I64 s) :
    Calls Try.prog 8 #[.int .i64 c, .int .i64 v, .int .i64 s] w fun e w' => e = .returned (.int .i64 (loc c v s)) ∧ w = w' := by
  obtain ⟨hc1, hc2⟩ := hc
  obtain ⟨hv1, hv2⟩ := hv
  obtain ⟨hs1, hs2⟩ := hs
  unfold loc
  by_cases c0 : c = 3
  · rw [if_pos c0]
    go_enter Try.func8, Try.ntmps8
    go_wp2
    go_ret
    exact ⟨rfl, rfl⟩
  rw [if_neg c0]
  by_cases c1 : s = 2
  · rw [if_pos c1]
    go_enter Try.func8, Try.ntmps8
    go_wp2
    go_ret
    exact ⟨rfl, rfl⟩
  rw [if_neg c1]
  by_cases c2 : c = 2
  · rw [if_pos c2]
    go_enter Try.func8, Try.ntmps8
    go_wp2
    go_ret
    exact ⟨rfl, rfl⟩
  rw [if_neg c2]
  by_cases c3 : v = 2
  · rw [if_pos c3]
    go_enter Try.func8, Try.ntmps8
    go_wp2
    go_ret
    exact ⟨rfl, rfl⟩
  rw [if_neg c3]
  by_cases c4 : v = 1
  · rw [if_pos c4]
    go_enter Try.func8, Try.ntmps8
    go_wp2
    go_ret
    exact ⟨rfl, rfl⟩
  rw [if_neg c4]
  by_cases c5 : c = 1
  · rw [if_pos c5]
    go_enter Try.func8, Try.ntmps8
    go_wp2
    go_ret
    exact ⟨rfl, rfl⟩
  rw [if_neg c5]
  go_enter Try.func8, Try.ntmps8
  go_wp2
  go_ret
  exact ⟨rfl, rfl⟩

set_option maxHeartbeats 800000 in
theorem refLocal_calls (c v s : Int) (w : World) (hc : I64 c) (hv : I64 v) (hs : I64 s) :
    Calls Try.prog 9 #[.int .i64 c, .int .i64 v, .int .i64 s] w fun e w' => e = .returned (.int .i64 (loc c v s)) ∧ w = w' := by
  obtain ⟨hc1, hc2⟩ := hc
  obtain ⟨hv1, hv2⟩ := hv
  obtain ⟨hs1, hs2⟩ := hs
  unfold loc
  by_cases c0 : c = 3
  · rw [if_pos c0]
    go_enter Try.func9, Try.ntmps9
    go_wp2
    go_ret
    exact ⟨rfl, rfl⟩
  rw [if_neg c0]
  by_cases c1 : s = 2
  · rw [if_pos c1]
    go_enter Try.func9, Try.ntmps9
    go_wp2
    go_ret
    exact ⟨rfl, rfl⟩
  rw [if_neg c1]
  by_cases c2 : c = 2
  · rw [if_pos c2]
    go_enter Try.func9, Try.ntmps9
    go_wp2
    go_ret
    exact ⟨rfl, rfl⟩
  rw [if_neg c2]
  by_cases c3 : v = 2
  · rw [if_pos c3]
    go_enter Try.func9, Try.ntmps9
    go_wp2
    go_ret
    exact ⟨rfl, rfl⟩
  rw [if_neg c3]
  by_cases c4 : v = 1
  · rw [if_pos c4]
    go_enter Try.func9, Try.ntmps9
    go_wp2
    go_ret
    exact ⟨rfl, rfl⟩
  rw [if_neg c4]
  by_cases c5 : c = 1
  · rw [if_pos c5]
    go_enter Try.func9, Try.ntmps9
    go_wp2
    go_ret
    exact ⟨rfl, rfl⟩
  rw [if_neg c5]
  go_enter Try.func9, Try.ntmps9
  go_wp2
  go_ret
  exact ⟨rfl, rfl⟩

set_option maxHeartbeats 800000 in
theorem line_calls (q : Int) (w : World) (hq : I64 q) :
    Calls Try.prog 12 #[.int .i64 q] w fun e w' => e = .returned (.int .i64 (lin q)) ∧ w = w' := by
  obtain ⟨hq1, hq2⟩ := hq
  unfold lin
  by_cases c0 : q < 1
  · rw [if_pos c0]
    go_enter Try.func12, Try.ntmps12
    go_wp2
    go_ret
    exact ⟨rfl, rfl⟩
  rw [if_neg c0]
  by_cases c1 : 6 < q
  · rw [if_pos c1]
    go_enter Try.func12, Try.ntmps12
    go_wp2
    go_ret
    exact ⟨rfl, rfl⟩
  rw [if_neg c1]
  go_enter Try.func12, Try.ntmps12
  go_wp2
  go_ret
  exact ⟨rfl, rfl⟩

set_option maxHeartbeats 800000 in
theorem refLine_calls (q : Int) (w : World) (hq : I64 q) :
    Calls Try.prog 13 #[.int .i64 q] w fun e w' => e = .returned (.int .i64 (lin q)) ∧ w = w' := by
  obtain ⟨hq1, hq2⟩ := hq
  unfold lin
  by_cases c0 : q < 1
  · rw [if_pos c0]
    go_enter Try.func13, Try.ntmps13
    go_wp2
    go_ret
    exact ⟨rfl, rfl⟩
  rw [if_neg c0]
  by_cases c1 : 6 < q
  · rw [if_pos c1]
    go_enter Try.func13, Try.ntmps13
    go_wp2
    go_ret
    exact ⟨rfl, rfl⟩
  rw [if_neg c1]
  go_enter Try.func13, Try.ntmps13
  go_wp2
  go_ret
  exact ⟨rfl, rfl⟩

set_option maxHeartbeats 800000 in
theorem counted_calls (q : Int) (w : World) (hq : I64 q) :
    Calls Try.prog 14 #[.int .i64 q] w fun e w' => e = .returned (.int .i64 (cntd q)) ∧ w = w' := by
  obtain ⟨hq1, hq2⟩ := hq
  unfold cntd
  by_cases c0 : q < 0
  · rw [if_pos c0]
    go_enter Try.func14, Try.ntmps14
    go_wp2
    go_ret
    exact ⟨rfl, rfl⟩
  rw [if_neg c0]
  by_cases c1 : 8 < q
  · rw [if_pos c1]
    go_enter Try.func14, Try.ntmps14
    go_wp2
    go_ret
    exact ⟨rfl, rfl⟩
  rw [if_neg c1]
  go_enter Try.func14, Try.ntmps14
  go_wp2
  go_ret
  exact ⟨rfl, rfl⟩

set_option maxHeartbeats 800000 in
theorem refReq_calls (q : Int) (w : World) (hq : I64 q) :
    Calls Try.prog 15 #[.int .i64 q] w fun e w' => e = .returned (.int .i64 (cntd q)) ∧ w = w' := by
  obtain ⟨hq1, hq2⟩ := hq
  unfold cntd
  by_cases c0 : q < 0
  · rw [if_pos c0]
    go_enter Try.func15, Try.ntmps15
    go_wp2
    go_ret
    exact ⟨rfl, rfl⟩
  rw [if_neg c0]
  by_cases c1 : 8 < q
  · rw [if_pos c1]
    go_enter Try.func15, Try.ntmps15
    go_wp2
    go_ret
    exact ⟨rfl, rfl⟩
  rw [if_neg c1]
  go_enter Try.func15, Try.ntmps15
  go_wp2
  go_ret
  exact ⟨rfl, rfl⟩

set_option maxHeartbeats 800000 in
theorem wins_calls (a b : Int) (w : World) (ha : I64 a) (hb : I64 b) :
    Calls Try.prog 10 #[.int .i64 a, .int .i64 b] w fun e w' => e = .returned (.int .i64 (win a b)) ∧ w = w' := by
  have b1 := cntd_bd a
  have b2 := cntd_bd b
  unfold win
  by_cases c : cntd a < cntd b
  · have m : max (cntd a) (cntd b) = cntd b := by omega
    rw [m]
    go_enter Try.func10, Try.ntmps10
    go_wp2_with fail
    refine (counted_calls a _ ha).mono ?_
    rintro e w' ⟨rfl, rfl⟩
    go_wp2_with fail
    refine (counted_calls b _ hb).mono ?_
    rintro e w' ⟨rfl, rfl⟩
    go_wp2
    go_ret
    exact ⟨rfl, rfl⟩
  · have m : max (cntd a) (cntd b) = cntd a := by omega
    rw [m]
    go_enter Try.func10, Try.ntmps10
    go_wp2_with fail
    refine (counted_calls a _ ha).mono ?_
    rintro e w' ⟨rfl, rfl⟩
    go_wp2_with fail
    refine (counted_calls b _ hb).mono ?_
    rintro e w' ⟨rfl, rfl⟩
    go_wp2
    go_ret
    exact ⟨rfl, rfl⟩

set_option maxHeartbeats 800000 in
theorem refWins_calls (a b : Int) (w : World) (ha : I64 a) (hb : I64 b) :
    Calls Try.prog 11 #[.int .i64 a, .int .i64 b] w fun e w' => e = .returned (.int .i64 (win a b)) ∧ w = w' := by
  have b1 := cntd_bd a
  have b2 := cntd_bd b
  unfold win
  by_cases c : cntd a < cntd b
  · have m : max (cntd a) (cntd b) = cntd b := by omega
    rw [m]
    go_enter Try.func11, Try.ntmps11
    go_wp2_with fail
    refine (refReq_calls a _ ha).mono ?_
    rintro e w' ⟨rfl, rfl⟩
    go_wp2_with fail
    refine (refReq_calls b _ hb).mono ?_
    rintro e w' ⟨rfl, rfl⟩
    go_wp2
    go_ret
    exact ⟨rfl, rfl⟩
  · have m : max (cntd a) (cntd b) = cntd a := by omega
    rw [m]
    go_enter Try.func11, Try.ntmps11
    go_wp2_with fail
    refine (refReq_calls a _ ha).mono ?_
    rintro e w' ⟨rfl, rfl⟩
    go_wp2_with fail
    refine (refReq_calls b _ hb).mono ?_
    rintro e w' ⟨rfl, rfl⟩
    go_wp2
    go_ret
    exact ⟨rfl, rfl⟩

set_option maxHeartbeats 800000 in
theorem alive_calls (w : World) : Calls Try.prog 7 #[] w fun e w' => e = .returned (.bool true) ∧ w = w' := by
  have e1 : lin 5 = 1 := by decide
  have e2 : lin 8 = 0 := by decide
  have e3 : win 2 5 = 5 := by decide
  have k1 := fun w => line_calls 5 w (by unfold I64; omega)
  have k2 := fun w => line_calls 8 w (by unfold I64; omega)
  have k3 := fun w => wins_calls 2 5 w (by unfold I64; omega) (by unfold I64; omega)
  rw [e1] at k1; rw [e2] at k2; rw [e3] at k3
  have K1 := Lib.hid k1
  have K2 := Lib.hid k2
  have K3 := Lib.hid k3
  clear k1 k2 k3 e1 e2 e3
  go_enter Try.func7, Try.ntmps7
  go_wp2_with fail
  refine (K1.out _).mono ?_
  rintro e w' ⟨rfl, rfl⟩
  go_wp2_with fail
  refine (K2.out _).mono ?_
  rintro e w' ⟨rfl, rfl⟩
  go_wp2_with fail
  refine (K3.out _).mono ?_
  rintro e w' ⟨rfl, rfl⟩
  go_wp2
  go_ret
  exact ⟨rfl, rfl⟩
end Go.Proofs.Ythjkeodjaggggaa

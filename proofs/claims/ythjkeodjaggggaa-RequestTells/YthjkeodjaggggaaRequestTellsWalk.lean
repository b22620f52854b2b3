/- The law RequestTells returns true at every input: Local, Wins and Line of package request agree with the reference. No condition. -/
import Derived.Test.YthjkeodjaggggaaReqWalks
namespace Go.Proofs.Ythjkeodjaggggaa
open Go.RowKit
set_option linter.unusedVariables false
set_option maxHeartbeats 1000000 in
theorem RequestTells_walk (command work spare a b : Int) (wc : (Lit.int .i64 command).wf = true) (ww : (Lit.int .i64 work).wf = true) (ws : (Lit.int .i64 spare).wf = true) (wa : (Lit.int .i64 a).wf = true) (wb : (Lit.int .i64 b).wf = true) (w : World) :
    Calls Try.prog 3 #[.int .i64 command, .int .i64 work, .int .i64 spare, .int .i64 a, .int .i64 b] w fun e w' => e = .returned (.bool true) ∧ Grown w w' := by
  have hc : I64 command := bounds_i64 wc
  have hw : I64 work := bounds_i64 ww
  have hs : I64 spare := bounds_i64 ws
  have ha : I64 a := bounds_i64 wa
  have hb : I64 b := bounds_i64 wb
  clear wc ww ws wa wb
  go_enter Try.func3, Try.ntmps3
  go_wp2_with fail
  refine (alive_calls _).mono ?_
  rintro e w' ⟨rfl, rfl⟩
  go_wp2_with fail
  refine (local_calls command work spare _ hc hw hs).mono ?_
  rintro e w' ⟨rfl, rfl⟩
  go_wp2_with fail
  refine (refLocal_calls command work spare _ hc hw hs).mono ?_
  rintro e w' ⟨rfl, rfl⟩
  go_wp2_with fail
  refine (wins_calls a b _ ha hb).mono ?_
  rintro e w' ⟨rfl, rfl⟩
  go_wp2_with fail
  refine (refWins_calls a b _ ha hb).mono ?_
  rintro e w' ⟨rfl, rfl⟩
  go_wp2_with fail
  refine (line_calls a _ ha).mono ?_
  rintro e w' ⟨rfl, rfl⟩
  go_wp2_with fail
  refine (refLine_calls a _ ha).mono ?_
  rintro e w' ⟨rfl, rfl⟩
  go_wp2
  go_ret
  exact ⟨rfl, Grown.refl _⟩
end Go.Proofs.Ythjkeodjaggggaa

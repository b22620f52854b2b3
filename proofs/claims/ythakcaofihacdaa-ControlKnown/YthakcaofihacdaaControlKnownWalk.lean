/- The law ControlKnown, walked. No condition. -/
import Derived.Test.YthakcaofihacdaaCtlKnownA
import Derived.Test.YthakcaofihacdaaCtlKnownB
namespace Go.Proofs.Ythakcaofihacdaa
open Go.RowKit
set_option linter.unusedVariables false

set_option maxHeartbeats 1000000 in
theorem ControlKnown_far (a : Int) (w : World) (h : a < 0 ∨ 10 ≤ a) :
    Calls Try.prog 6 #[.int .i64 a] w fun e w' => e = .returned (.bool true) ∧ Below w.heap.size w w' := by
  rcases h with h | h
  · go_enter Try.func6, Try.ntmps6
    go_wp2_with fail
    refine (alive_calls w).mono ?_
    rintro e W ⟨rfl, hb⟩
    have FB := Lib.hid (fun o o' o'' => ba (o := o'') (ba (o := o') (ba (o := o) hb)))
    clear hb
    go_wp2
    go_ret
    exact ⟨rfl, FB.out _ _ _⟩
  · have h0 : ¬ a < 0 := by omega
    go_enter Try.func6, Try.ntmps6
    go_wp2_with fail
    refine (alive_calls w).mono ?_
    rintro e W ⟨rfl, hb⟩
    have FB := Lib.hid (fun o o' o'' => ba (o := o'') (ba (o := o') (ba (o := o) hb)))
    clear hb
    go_wp2
    go_ret
    exact ⟨rfl, FB.out _ _ _⟩
theorem ControlKnown_walk (a0 : Int) (w0 : (Lit.int .i64 a0).wf = true) (w : World) :
    Calls Try.prog 6 #[.int .i64 a0] w fun e w' => e = .returned (.bool true) ∧ Below w.heap.size w w' := by
  by_cases h : a0 < 0 ∨ 10 ≤ a0
  · exact ControlKnown_far a0 w h
  · have hk : a0 = 0 ∨ a0 = 1 ∨ a0 = 2 ∨ a0 = 3 ∨ a0 = 4 ∨ a0 = 5 ∨ a0 = 6 ∨ a0 = 7 ∨ a0 = 8 ∨ a0 = 9 := by omega
    rcases hk with rfl | rfl | rfl | rfl | rfl | rfl | rfl | rfl | rfl | rfl
    · exact ControlKnown_0 w
    · exact ControlKnown_1 w
    · exact ControlKnown_2 w
    · exact ControlKnown_3 w
    · exact ControlKnown_4 w
    · exact ControlKnown_5 w
    · exact ControlKnown_6 w
    · exact ControlKnown_7 w
    · exact ControlKnown_8 w
    · exact ControlKnown_9 w
end Go.Proofs.Ythakcaofihacdaa

/- The small functions of the tally: limit, Of, tally of an event, Parts, Add; the reference's Cut and Tally. Condition: parts are floats of the integers 0 to 4294967295. -/
import Derived.Test.YtnjmnklkbldmgaaFlInt
import Derived.Test.YtnjmnklkbldmgaaBytesRd
namespace Go.Proofs.Ytnjmnklkbldmgaa
open Go.RowKit
set_option linter.unusedVariables false

/-- a count, limited -/
def cl (n : Int) : Int := min (max n 0) 4294967295
theorem cl_of {n : Int} (h0 : 0 ≤ n) (h1 : n ≤ 4294967295) : cl n = n := by unfold cl; omega
theorem cl_range (n : Int) : 0 ≤ cl n ∧ cl n ≤ 4294967295 := by unfold cl; omega
/-- a tally -/
def cx (a b : Int) : Value := .complex .f64 (fl a) (fl b)
theorem fl_one : fl 1 = 4607182418800017408 := by decide +kernel
theorem fl_top : fl 4294967295 = 4751297606873776128 := by decide +kernel
theorem cx_zero : cx 0 0 = .complex .f64 0 0 := by unfold cx; rw [fl_zero]
theorem cx_good : cx 1 0 = .complex .f64 4607182418800017408 0 := by unfold cx; rw [fl_zero, fl_one]
theorem cx_bad : cx 0 1 = .complex .f64 0 4607182418800017408 := by unfold cx; rw [fl_zero, fl_one]

theorem limit_calls (n : Int) (w : World) : Calls Try.prog 32 #[.int .i64 n] w fun e w' => e = .returned (.int .i64 (cl n)) ∧ w' = w := by
  have hc := Lib.hid (show cl n = min (max n 0) 4294967295 from rfl)
  have hn : n < 0 ∨ 4294967295 < n ∨ (0 ≤ n ∧ n ≤ 4294967295) := by omega
  rcases hn with hn | hn | ⟨hn, hn'⟩
  all_goals
    go_enter Try.func32, Try.ntmps32
    go_wp2
    go_ret
    refine ⟨?_, rfl⟩
    rw [hc.out]
    exact ret_int (by omega)
theorem cut_calls (n a b : Int) (hab : a ≤ b) (w : World) : Calls Try.prog 22 #[.int .i64 n, .int .i64 a, .int .i64 b] w fun e w' => e = .returned (.int .i64 (min (max n a) b)) ∧ w' = w := by
  have hn : n < a ∨ (a ≤ n ∧ b < n) ∨ (a ≤ n ∧ n ≤ b) := by omega
  have hc := Lib.hid (show (n < a → min (max n a) b = a) ∧ (a ≤ n → b < n → min (max n a) b = b) ∧ (a ≤ n → n ≤ b → min (max n a) b = n) by omega)
  rcases hn with hn | ⟨hn, hn'⟩ | ⟨hn, hn'⟩
  all_goals
    go_enter Try.func22, Try.ntmps22
    go_wp2
    go_ret
    refine ⟨?_, rfl⟩
    first
    | (rw [hc.out.1 hn]; rfl)
    | (rw [hc.out.2.1 hn hn']; rfl)
    | (rw [hc.out.2.2 hn hn']; rfl)
theorem of_calls (a b : Int) (w : World) : Calls Try.prog 19 #[.int .i64 a, .int .i64 b] w fun e w' => e = .returned (cx (cl a) (cl b)) ∧ w' = w := by
  go_enter Try.func19, Try.ntmps19
  go_wp2_with fail
  refine (limit_calls a w).mono ?_
  rintro e w' ⟨rfl, rfl⟩
  go_wp2_with fail
  refine (limit_calls b _).mono ?_
  rintro e w' ⟨rfl, rfl⟩
  go_wp2
  go_ret
  exact ⟨rfl, rfl⟩
theorem refTally_calls (a b : Int) (w : World) : Calls Try.prog 36 #[.int .i64 a, .int .i64 b] w fun e w' => e = .returned (cx (cl a) (cl b)) ∧ w' = w := by
  go_enter Try.func36, Try.ntmps36
  go_wp2_with fail
  refine (cut_calls a 0 4294967295 (by decide) w).mono ?_
  rintro e w' ⟨rfl, rfl⟩
  go_wp2_with fail
  refine (cut_calls b 0 4294967295 (by decide) _).mono ?_
  rintro e w' ⟨rfl, rfl⟩
  go_wp2
  go_ret
  exact ⟨rfl, rfl⟩

/-- an event as the program keeps it: 0 none, 1 good, 2 bad -/
def gd (e : Nat) : Int := if e = 1 then 1 else 0
def bd (e : Nat) : Int := if e = 2 then 1 else 0
theorem event_calls (e : Nat) (he : e ≤ 2) (w : World) : Calls Try.prog 33 #[.int .u8 (e : Int)] w fun r w' => r = .returned (cx (gd e) (bd e)) ∧ w' = w := by
  have hz := Lib.hid cx_zero
  have hg := Lib.hid cx_good
  have hb := Lib.hid cx_bad
  have hn : e = 0 ∨ e = 1 ∨ e = 2 := by omega
  rcases hn with rfl | rfl | rfl
  all_goals
    go_enter Try.func33, Try.ntmps33
    go_wp2
    go_ret
    refine ⟨?_, rfl⟩
    simp only [gd, bd]
    first
    | (show _ = Ending.returned (cx 0 0); rw [hz.out]; rfl)
    | (show _ = Ending.returned (cx 1 0); rw [hg.out]; rfl)
    | (show _ = Ending.returned (cx 0 1); rw [hb.out]; rfl)
end Go.Proofs.Ytnjmnklkbldmgaa

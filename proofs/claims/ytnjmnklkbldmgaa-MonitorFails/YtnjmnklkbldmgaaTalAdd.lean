/- Parts and Add of tallies. Condition: parts are floats of the integers 0 to 4294967295. -/
import Derived.Test.YtnjmnklkbldmgaaTalParts
namespace Go.Proofs.Ytnjmnklkbldmgaa
open Go.RowKit
set_option linter.unusedVariables false

theorem run_toInt {n : Int} (h0 : 0 ≤ n) (h1 : n ≤ 4294967295) (w : World) : (convert 57 3 (.float .f64 (fl n))).run Try.prog w = .ok (.int .i64 n) w :=
  run_convert_float_int w _ _ .f64 .i64 _ _ (by kernel_rfl) Try.underlying3 (toInt_fl (by omega))
theorem run_addc {a b c d : Int} (ha : 0 ≤ a ∧ a ≤ 4294967295) (hb : 0 ≤ b ∧ b ≤ 4294967295) (hc : 0 ≤ c ∧ c ≤ 4294967295) (hd : 0 ≤ d ∧ d ≤ 4294967295) (t : TypeId) (w : World) :
    (binOp .add t (.complex .f64 (fl a) (fl b)) (.complex .f64 (fl c) (fl d))).run Try.prog w = .ok (.complex .f64 (fl (a + c)) (fl (b + d))) w := by
  refine run_complex_sum w .add (.inl rfl) t .f64 _ _ _ _ _ _ ?_
  unfold cSumBits
  rw [add_fl (by omega) (by omega), add_fl (by omega) (by omega)]
  rfl
theorem neg_top : (FloatKind.f64.decode (fl 4294967295)).neg = false := by decide +kernel
theorem run_minf {s : Int} (h0 : 0 ≤ s) (h1 : s ≤ 8589934590) (ts : Array TypeId) (t : TypeId) (w : World) :
    (Builtin.min_ ts t #[.float .f64 (fl s), .float .f64 4751297606873776128]).run Try.prog w = .ok (.float .f64 (fl (cl s))) w := by
  have e : cl s = min s 4294967295 := by unfold cl; omega
  rw [e, ← fl_top]
  rcases Int.lt_trichotomy s 4294967295 with h | rfl | h
  · have o := ord_lt (a := s) (b := 4294967295) (by omega) (by decide) h
    rw [show min s 4294967295 = s by omega]
    simp [Builtin.min_, Builtin.min2, o]
  · have o := ord_eq (a := 4294967295) (by decide)
    simp [Builtin.min_, Builtin.min2, o, neg_top]
  · have o := ord_gt (a := s) (b := 4294967295) (by omega) (by decide) h
    rw [show min s 4294967295 = 4294967295 by omega]
    simp [Builtin.min_, Builtin.min2, o]

theorem parts_calls {a b : Int} (ha : 0 ≤ a ∧ a ≤ 4294967295) (hb : 0 ≤ b ∧ b ≤ 4294967295) (w : World) :
    Calls Try.prog 37 #[cx a b] w fun e w' => e = .returned (.tuple #[.int .i64 a, .int .i64 b, .bool true]) ∧ w' = w := by
  have ca := fun w => run_toInt ha.1 ha.2 w
  have cb := fun w => run_toInt hb.1 hb.2 w
  have pa := fun w => isPart_calls ha.1 ha.2 w
  have pb := fun w => isPart_calls hb.1 hb.2 w
  clear ha hb
  unfold cx
  go_enter Try.func37, Try.ntmps37
  go_wp2_with fail
  refine (pa w).mono ?_
  rintro e w' ⟨rfl, rfl⟩
  go_wp2_with fail
  refine (pb _).mono ?_
  rintro e w' ⟨rfl, rfl⟩
  go_wp2
  go_ret3
  exact ⟨rfl, rfl⟩
theorem counted_calls {a b : Int} (ha : 0 ≤ a ∧ a ≤ 4294967295) (hb : 0 ≤ b ∧ b ≤ 4294967295) (w : World) :
    Calls Try.prog 34 #[cx a b] w fun e w' => e = .returned (cx a b) ∧ w' = w := by
  have pa := fun w => parts_calls ha hb w
  have oa := fun w => of_calls a b w
  rw [cl_of ha.1 ha.2, cl_of hb.1 hb.2] at oa
  clear ha hb
  go_enter Try.func34, Try.ntmps34
  go_wp2_with fail
  refine (pa w).mono ?_
  rintro e w' ⟨rfl, rfl⟩
  go_wp2_with fail
  refine (oa _).mono ?_
  rintro e w' ⟨rfl, rfl⟩
  go_wp2
  go_ret
  exact ⟨rfl, rfl⟩
theorem add_calls {a b c d : Int} (ha : 0 ≤ a ∧ a ≤ 4294967295) (hb : 0 ≤ b ∧ b ≤ 4294967295) (hc : 0 ≤ c ∧ c ≤ 4294967295) (hd : 0 ≤ d ∧ d ≤ 4294967295) (w : World) :
    Calls Try.prog 25 #[cx a b, cx c d] w fun e w' => e = .returned (cx (cl (a + c)) (cl (b + d))) ∧ w' = w := by
  have pa := fun w => counted_calls ha hb w
  have pc := fun w => counted_calls hc hd w
  have hs := fun t w => run_addc ha hb hc hd t w
  have m1 := fun ts t w => run_minf (s := a + c) (by omega) (by omega) ts t w
  have m2 := fun ts t w => run_minf (s := b + d) (by omega) (by omega) ts t w
  clear ha hb hc hd
  have hx : ∀ a b, cx a b = .complex .f64 (fl a) (fl b) := fun _ _ => rfl
  go_enter Try.func25, Try.ntmps25
  go_wp2_with fail
  refine (pa w).mono ?_
  rintro e w' ⟨rfl, rfl⟩
  go_wp2_with fail
  refine (pc _).mono ?_
  rintro e w' ⟨rfl, rfl⟩
  go_wp2
  go_ret
  exact ⟨rfl, rfl⟩
end Go.Proofs.Ytnjmnklkbldmgaa

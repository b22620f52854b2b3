/- Parts and Add of tallies. Condition: parts are floats of the integers 0 to 4294967295. -/
import Derived.Test.YtnjmnklkbldmgaaTalSmall
import Derived.Laws.Externs
namespace Go.Proofs.Ytnjmnklkbldmgaa
open Go.RowKit
set_option linter.unusedVariables false

theorem ord_lt {a b : Int} (ha : a.natAbs < 9007199254740992) (hb : b.natAbs < 9007199254740992) (h : a < b) : FloatKind.f64.format.order (fl a) (fl b) = some .lt := by
  show Ieee.double.order _ _ = _
  rw [order_fl ha hb]
  show some (compareOfLessAndEq _ _) = _
  unfold compareOfLessAndEq
  rw [if_pos h]
theorem ord_eq {a : Int} (ha : a.natAbs < 9007199254740992) : FloatKind.f64.format.order (fl a) (fl a) = some .eq := by
  show Ieee.double.order _ _ = _
  rw [order_fl ha ha]
  show some (compareOfLessAndEq _ _) = _
  unfold compareOfLessAndEq
  rw [if_neg (Int.lt_irrefl _), if_pos rfl]
theorem ord_gt {a b : Int} (ha : a.natAbs < 9007199254740992) (hb : b.natAbs < 9007199254740992) (h : b < a) : FloatKind.f64.format.order (fl a) (fl b) = some .gt := by
  show Ieee.double.order _ _ = _
  rw [order_fl ha hb]
  show some (compareOfLessAndEq _ _) = _
  unfold compareOfLessAndEq
  rw [if_neg (by omega), if_neg (by omega)]
theorem eq_fl {a b : Int} (ha : a.natAbs < 9007199254740992) (hb : b.natAbs < 9007199254740992) : (FloatKind.f64.format.order (fl a) (fl b) == some .eq) = decide (a = b) := by
  rcases Int.lt_trichotomy a b with h | rfl | h
  · rw [ord_lt ha hb h, decide_eq_false (by omega)]; rfl
  · rw [ord_eq ha, decide_eq_true rfl]; rfl
  · rw [ord_gt ha hb h, decide_eq_false (by omega)]; rfl

/-- cut to an integer: what is no NaN -/
theorem integral_number (name : String) (way : Ieee.Toward) : ∃ g : Nat → Bool → Nat → Sem Value, ∀ x, Extern.MathFloor.toIntegral name way #[.float .f64 x] = Extern.MathFloor.toIntegral.match_1 (fun _ => Sem Value) (FloatKind.f64.decode x) (g x) (fun d => pure (.float .f64 (FloatKind.f64.encode (d.integral way)))) := ⟨_, fun _ => rfl⟩
theorem run_archTrunc {n : Int} (h : n.natAbs < 9007199254740992) (w : World) : (callFunc 40 #[.float .f64 (fl n)]).run Try.prog w = .ok (.value (.float .f64 (fl n))) w := by
  rw [run_callFunc_extern Try.func40 (by kernel_rfl) (by kernel_rfl) (by kernel_rfl) (e := Extern.MathFloor.toIntegral "math.archTrunc" .zero) (by kernel_rfl)]
  have hd : FloatKind.f64.decode (fl n) = Ieee.double.read (fl n) := rfl
  have ht := trunc_fl h
  obtain ⟨k, hk⟩ := read_fl h
  rw [hd, hk] at ht
  obtain ⟨g, hg⟩ := integral_number "math.archTrunc" .zero
  rw [hg, hd, hk]
  show (Sem.run Try.prog (pure _) w).andThen _ = _
  rw [ht]
  simp only [Sem.run_pure, Result.andThen_ok]
theorem trunc_calls {n : Int} (h : n.natAbs < 9007199254740992) (w : World) : Calls Try.prog 39 #[.float .f64 (fl n)] w fun e w' => e = .returned (.float .f64 (fl n)) ∧ w' = w := by
  have ht := run_archTrunc h w
  go_enter Try.func39, Try.ntmps39
  go_wp2
  go_ret
  exact ⟨rfl, rfl⟩
theorem isPart_calls {n : Int} (h0 : 0 ≤ n) (h1 : n ≤ 4294967295) (w : World) : Calls Try.prog 38 #[.float .f64 (fl n)] w fun e w' => e = .returned (.bool true) ∧ w' = w := by
  have hn : n.natAbs < 9007199254740992 := by omega
  have e1 := ord_eq hn
  have e2 : FloatKind.f64.format.order (fl n) 0 = some .gt ∨ FloatKind.f64.format.order (fl n) 0 = some .eq := by
    rw [← fl_zero]
    by_cases h : n = 0
    · subst h; exact .inr e1
    · exact .inl (ord_gt hn (by decide) (by omega))
  have e3 : FloatKind.f64.format.order (fl n) 4751297606873776128 = some .lt ∨ FloatKind.f64.format.order (fl n) 4751297606873776128 = some .eq := by
    rw [← fl_top]
    by_cases h : n = 4294967295
    · subst h; exact .inr e1
    · exact .inl (ord_lt hn (by decide) (by omega))
  have ht := fun w => trunc_calls hn w
  clear hn h0 h1
  rcases e2 with e2 | e2 <;> rcases e3 with e3 | e3
  all_goals
    go_enter Try.func38, Try.ntmps38
    go_wp2_with fail
    refine (ht w).mono ?_
    rintro e w' ⟨rfl, rfl⟩
    go_wp2
    go_ret
    exact ⟨rfl, rfl⟩
end Go.Proofs.Ytnjmnklkbldmgaa

/- The law TallyParts, walked. No condition. -/
import Derived.Test.YtlkalgjecfhgdaaTalAlive
import Derived.Test.YtlkalgjecfhgdaaTalAdd
namespace Go.Proofs.Ytlkalgjecfhgdaa
open Go.RowKit
set_option linter.unusedVariables false

set_option maxHeartbeats 1000000 in
theorem TallyParts_far (a b c d : Int) (w : World) (h : a < 0 ∨ (0 ≤ a ∧ b < 0) ∨ (0 ≤ a ∧ 0 ≤ b ∧ c < 0) ∨ (0 ≤ a ∧ 0 ≤ b ∧ 0 ≤ c ∧ d < 0) ∨ (0 ≤ a ∧ 0 ≤ b ∧ 0 ≤ c ∧ 0 ≤ d ∧ 4294967295 < a) ∨ (0 ≤ a ∧ 0 ≤ b ∧ 0 ≤ c ∧ 0 ≤ d ∧ a ≤ 4294967295 ∧ 4294967295 < b) ∨
    (0 ≤ a ∧ 0 ≤ b ∧ 0 ≤ c ∧ 0 ≤ d ∧ a ≤ 4294967295 ∧ b ≤ 4294967295 ∧ 4294967295 < c) ∨ (0 ≤ a ∧ 0 ≤ b ∧ 0 ≤ c ∧ 0 ≤ d ∧ a ≤ 4294967295 ∧ b ≤ 4294967295 ∧ c ≤ 4294967295 ∧ 4294967295 < d)) :
    Calls Try.prog 5 #[.int .i64 a, .int .i64 b, .int .i64 c, .int .i64 d] w fun e w' => e = .returned (.bool true) ∧ Below w.heap.size w w' := by
  rcases h with h1 | ⟨h1, h2⟩ | ⟨h1, h2, h3⟩ | ⟨h1, h2, h3, h4⟩ | ⟨h1, h2, h3, h4, h5⟩ | ⟨h1, h2, h3, h4, h5, h6⟩ | ⟨h1, h2, h3, h4, h5, h6, h7⟩ | ⟨h1, h2, h3, h4, h5, h6, h7, h8⟩
  all_goals
    go_enter Try.func5, Try.ntmps5
    go_wp2_with fail
    refine (alive_calls w).mono ?_
    rintro e w' ⟨rfl, hb⟩
    go_wp2
    go_ret
    exact ⟨rfl, hb⟩
set_option maxHeartbeats 1000000 in
theorem TallyParts_near (a b c d : Int) (w : World) (ha : 0 ≤ a ∧ a ≤ 4294967295) (hb : 0 ≤ b ∧ b ≤ 4294967295) (hc : 0 ≤ c ∧ c ≤ 4294967295) (hd : 0 ≤ d ∧ d ≤ 4294967295) :
    Calls Try.prog 5 #[.int .i64 a, .int .i64 b, .int .i64 c, .int .i64 d] w fun e w' => e = .returned (.bool true) ∧ Below w.heap.size w w' := by
  have o1 : ∀ w, Calls Try.prog 15 #[.int .i64 a, .int .i64 b] w fun e w' => e = .returned (cx a b) ∧ w' = w := fun w => by
    have := of_calls a b w
    rw [cl_of ha.1 ha.2, cl_of hb.1 hb.2] at this
    exact this
  have o2 : ∀ w, Calls Try.prog 15 #[.int .i64 c, .int .i64 d] w fun e w' => e = .returned (cx c d) ∧ w' = w := fun w => by
    have := of_calls c d w
    rw [cl_of hc.1 hc.2, cl_of hd.1 hd.2] at this
    exact this
  have a1 := fun w => add_calls ha hb hc hd w
  have a2 : ∀ w, Calls Try.prog 17 #[cx c d, cx a b] w fun e w' => e = .returned (cx (cl (a + c)) (cl (b + d))) ∧ w' = w := fun w => by
    have := add_calls hc hd ha hb w
    rw [Int.add_comm c a, Int.add_comm d b] at this
    exact this
  have p1 := fun w => parts_calls (cl_range (a + c)) (cl_range (b + d)) w
  have l1 := fun w => least_calls (a + c) (by omega) w
  have l2 := fun w => least_calls (b + d) (by omega) w
  have r1 := cl_range (a + c)
  have r2 := cl_range (b + d)
  have e1 := ord_eq (a := cl (a + c)) (by omega)
  have e2 := ord_eq (a := cl (b + d)) (by omega)
  have e3 : FloatKind.f64.format.order (fl a) (floatOfInt FloatKind.f64 a) = some .eq := ord_eq (by omega)
  have e4 : FloatKind.f64.format.order (fl b) (floatOfInt FloatKind.f64 b) = some .eq := ord_eq (by omega)
  clear r1 r2
  generalize cl (a + c) = u at *
  generalize cl (b + d) = v at *
  have hu : ∀ a b, cx a b = .complex .f64 (fl a) (fl b) := fun _ _ => rfl
  obtain ⟨x, hx⟩ : ∃ x, x = cx a b := ⟨_, rfl⟩
  obtain ⟨y, hy⟩ : ∃ y, y = cx c d := ⟨_, rfl⟩
  obtain ⟨z, hz⟩ : ∃ z, z = cx u v := ⟨_, rfl⟩
  rw [← hx] at o1 a1 a2
  rw [← hy] at o2 a1 a2
  rw [← hz] at a1 a2 p1
  have HY := Lib.hid hy
  have HZ := Lib.hid hz
  have HX := Lib.hid hx
  clear hx hy hz
  go_enter Try.func5, Try.ntmps5
  go_wp2_with fail
  refine (alive_calls w).mono ?_
  rintro e W ⟨rfl, bel⟩
  go_wp2_with fail
  refine (o1 _).mono ?_
  rintro e w' ⟨rfl, rfl⟩
  go_wp2_with fail
  refine (o2 _).mono ?_
  rintro e w' ⟨rfl, rfl⟩
  go_wp2_with fail
  refine (a1 _).mono ?_
  rintro e w' ⟨rfl, rfl⟩
  go_wp2_with fail
  refine (p1 _).mono ?_
  rintro e w' ⟨rfl, rfl⟩
  go_wp2_with fail
  refine (a1 _).mono ?_
  rintro e w' ⟨rfl, rfl⟩
  go_wp2_with fail
  refine (a2 _).mono ?_
  rintro e w' ⟨rfl, rfl⟩
  have hz := HZ.out
  have hx := HX.out
  rw [hu] at hx hz
  subst hx hz
  clear o1 o2 a1 a2 p1 HX HY HZ
  go_wp2_with fail
  refine (l1 _).mono ?_
  rintro e w' ⟨rfl, rfl⟩
  go_wp2_with fail
  refine (l2 _).mono ?_
  rintro e w' ⟨rfl, rfl⟩
  go_wp2
  go_ret
  exact ⟨rfl, bel⟩
theorem TallyParts_walk (a b c d : Int) (ha : (Lit.int .i64 a).wf = true) (hb : (Lit.int .i64 b).wf = true) (hc : (Lit.int .i64 c).wf = true) (hd : (Lit.int .i64 d).wf = true) (w : World) : Calls Try.prog 5 #[.int .i64 a, .int .i64 b, .int .i64 c, .int .i64 d] w fun e w' => e = .returned (.bool true) ∧ Below w.heap.size w w' := by
  by_cases h : (0 ≤ a ∧ a ≤ 4294967295) ∧ (0 ≤ b ∧ b ≤ 4294967295) ∧ (0 ≤ c ∧ c ≤ 4294967295) ∧ (0 ≤ d ∧ d ≤ 4294967295)
  · exact TallyParts_near a b c d w h.1 h.2.1 h.2.2.1 h.2.2.2
  · exact TallyParts_far a b c d w (by omega)
end Go.Proofs.Ytlkalgjecfhgdaa

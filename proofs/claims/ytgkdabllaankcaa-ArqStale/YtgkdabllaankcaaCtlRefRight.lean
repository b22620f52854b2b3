/- The reference's RightCtl. No condition. -/
import Derived.Test.YtgkdabllaankcaaG4
import Derived.Deep.DeepCutAuto
namespace Go.Proofs.Ytgkdabllaankcaa
open Go.RowKit
set_option linter.unusedVariables false

theorem in3 (n m : Int) : (¬ 0 ≤ n ∧ inR n m = false) ∨ ((0 ≤ n ∧ n < m) ∧ inR n m = true) ∨ ((0 ≤ n ∧ ¬ n < m) ∧ inR n m = false) := by
  by_cases h0 : 0 ≤ n
  · by_cases h1 : n < m
    · exact .inr (.inl ⟨⟨h0, h1⟩, decide_eq_true ⟨h0, h1⟩⟩)
    · exact .inr (.inr ⟨⟨h0, h1⟩, decide_eq_false fun h => h1 h.2⟩)
  · exact .inl ⟨h0, decide_eq_false fun h => h0 h.1⟩

set_option maxHeartbeats 800000 in
theorem rightR_calls (k ns nr : Int) (p : Bool) (m : Int) (w : World) :
    Calls Try.prog 35 #[.agg #[.int .i64 k, .int .i64 ns, .int .i64 nr, .bool p], .int .i64 m] w fun e w' => e = .returned (.bool (right k ns nr m)) ∧ boxed w k ns nr p = w' := by
  have hall : (isMod m = false ∧ (m != 128) = true ∧ (m != 32768) = true) ∨ m = 128 ∨ m = 32768 := by
    by_cases h1 : m = 128
    · exact .inr (.inl h1)
    · by_cases h2 : m = 32768
      · exact .inr (.inr h2)
      · exact .inl ⟨decide_eq_false (by omega), by simpa using h1, by simpa using h2⟩
  obtain ⟨R, hR⟩ : ∃ R, right k ns nr m = R := ⟨_, rfl⟩
  rw [hR]
  have HR := Lib.hid hR
  clear hR
  go_enter Try.func35, Try.ntmps35
  go_upto_region 1 with (fail)
  go_cut [5] (fun s5 wx => s5 = .bool (inR ns m) ∧ wx = w.alloc (.cells #[.int .i64 k, .int .i64 ns, .int .i64 nr, .bool p] 54))
  case first =>
    clear hall
    rcases in3 ns m with ⟨a, h⟩ | ⟨⟨a, b⟩, h⟩ | ⟨⟨a, b⟩, h⟩
    all_goals
      have H := Lib.hid h
      clear h
      go_wp2
      go_meet
      case rel => exact ⟨by rw [H.out], rfl⟩
  case rest =>
    obtain ⟨rfl, rfl⟩ := hcut
    go_upto_region 2 with (fail)
    go_cut [6] (fun s6 wx => s6 = .bool (inR nr m) ∧ wx = w.alloc (.cells #[.int .i64 k, .int .i64 ns, .int .i64 nr, .bool p] 54))
    case first =>
      clear hall
      rcases in3 nr m with ⟨a, h⟩ | ⟨⟨a, b⟩, h⟩ | ⟨⟨a, b⟩, h⟩
      all_goals
        have H := Lib.hid h
        clear h
        go_wp2
        go_meet
        case rel => exact ⟨by rw [H.out], rfl⟩
    case rest =>
      obtain ⟨rfl, rfl⟩ := hcut
      rcases hall with ⟨hm, h1, h2⟩ | hm
      · go_wp2
        go_ret
        exact ⟨by rw [← HR.out, right_no hm]; rfl, rfl⟩
      · have hM : isMod m = true := decide_eq_true hm
        have HM := Lib.hid hM
        clear hM
        by_cases h0 : k = 0
        · subst h0
          cases hq : inR ns m
          all_goals
            have HQ := Lib.hid hq
            clear hq
            rcases hm with rfl | rfl
            all_goals
              go_wp2
              go_ret
              exact ⟨by rw [← HR.out, right_i HM.out, HQ.out]; rfl, rfl⟩
        · by_cases h12 : k = 1 ∨ k = 2
          · have hq : (ns == 0) = decide (ns = 0) := eq0_dec ns
            cases hz : decide (ns = 0)
            all_goals
              rw [hz] at hq
              have HZ := Lib.hid hz
              clear hz
              rcases hm with rfl | rfl
              all_goals
                rcases h12 with rfl | rfl
                all_goals
                  go_wp2
                  go_ret
                  exact ⟨by rw [← HR.out, right_s HM.out (by first | exact .inl rfl | exact .inr rfl), HZ.out]; rfl, rfl⟩
          · have b0 : (k == 0) = false := by simpa using h0
            have b1 : (k == 1) = false := by simpa using fun e => h12 (.inl e)
            have b2 : (k == 2) = false := by simpa using fun e => h12 (.inr e)
            by_cases h3 : 3 ≤ k
            · by_cases h7 : k ≤ 7
              · have RU := Lib.hid (right_u (ns := ns) (nr := nr) HM.out ⟨h3, h7⟩)
                have hq : (ns == 0) = decide (ns = 0) := eq0_dec ns
                have HE := Lib.hid (eq0_dec nr)
                clear h0 h12
                cases hz : decide (ns = 0)
                all_goals
                  rw [hz] at hq
                  have HZ := Lib.hid hz
                  clear hz
                  rcases hm with rfl | rfl
                  all_goals
                    go_wp2
                    go_ret
                    exact ⟨by rw [← HR.out, RU.out, HZ.out]; first | rfl | (rw [HE.out]; rfl), rfl⟩
              · have RU := Lib.hid (right_x (k := k) (ns := ns) (nr := nr) (m := m) (by omega))
                clear h0 h12
                rcases hm with rfl | rfl
                all_goals
                  go_wp2
                  go_ret
                  exact ⟨by rw [← HR.out, RU.out]; rfl, rfl⟩
            · have RU := Lib.hid (right_x (k := k) (ns := ns) (nr := nr) (m := m) (by omega))
              clear h0 h12
              rcases hm with rfl | rfl
              all_goals
                go_wp2
                go_ret
                exact ⟨by rw [← HR.out, RU.out]; rfl, rfl⟩
end Go.Proofs.Ytgkdabllaankcaa

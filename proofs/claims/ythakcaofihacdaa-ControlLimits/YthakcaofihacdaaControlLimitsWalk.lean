/- The law ControlLimits, walked. No condition. -/
import Derived.Test.YthakcaofihacdaaCtlAlive
import Derived.Test.YthakcaofihacdaaCtlRefRight
namespace Go.Proofs.Ythakcaofihacdaa
open Go.RowKit
set_option linter.unusedVariables false

theorem lim_far (k n : Int) (wide : Bool) (w : World) (h : k < 0 ∨ 7 < k) :
    Calls Try.prog 7 #[.int .i64 k, .int .i64 n, .bool wide] w fun e w' => e = .returned (.bool true) ∧ Below w.heap.size w w' := by
  rcases h with h | h
  · cases wide
    all_goals
      go_enter Try.func7, Try.ntmps7
      go_wp2_with fail
      refine (alive_calls w).mono ?_
      rintro e w' ⟨rfl, hb⟩
      go_wp2
      go_ret
      exact ⟨rfl, hb⟩
  · have h0 : ¬ k < 0 := by omega
    cases wide
    all_goals
      go_enter Try.func7, Try.ntmps7
      go_wp2_with fail
      refine (alive_calls w).mono ?_
      rintro e w' ⟨rfl, hb⟩
      go_wp2
      go_ret
      exact ⟨rfl, hb⟩
/-- what the two calls of Right answer: for a number n that is in (i) or not, 0 (z) or not -/
theorem lim_two {k n m : Int} (hm : isMod m = true) (h0 : 0 ≤ k) (h7 : k ≤ 7) :
    (k = 0 ∧ right k n 0 m = inR n m ∧ right k 0 n m = inR n m) ∨ ((k == 0) = false ∧ k ≤ 2 ∧ right k n 0 m = decide (n = 0) ∧ right k 0 n m = inR n m) ∨ ((k == 0) = false ∧ ¬ k ≤ 2 ∧ right k n 0 m = decide (n = 0) ∧ right k 0 n m = decide (n = 0)) := by
  have hmm : m = 128 ∨ m = 32768 := of_decide_eq_true hm
  have hz : inR 0 m = true := decide_eq_true (by omega)
  by_cases hk : k = 0
  · subst hk
    rw [right_i hm, right_i hm, hz]
    exact .inl ⟨rfl, by simp, by simp⟩
  · have b0 : (k == 0) = false := by simpa using hk
    by_cases h12 : k = 1 ∨ k = 2
    · rw [right_s hm h12, right_s hm h12, hz]
      exact .inr (.inl ⟨b0, by omega, by simp, by simp⟩)
    · rw [right_u hm (by omega), right_u hm (by omega)]
      exact .inr (.inr ⟨b0, by omega, by simp, by simp⟩)
set_option maxHeartbeats 1600000 in
theorem lim_near (k n : Int) (wide : Bool) (w : World) (h0 : 0 ≤ k) (h7 : k ≤ 7) :
    Calls Try.prog 7 #[.int .i64 k, .int .i64 n, .bool wide] w fun e w' => e = .returned (.bool true) ∧ Below w.heap.size w w' := by
  obtain ⟨m, hM⟩ : ∃ m : Int, m = (if wide = true then 32768 else 128) := ⟨_, rfl⟩
  have hm : isMod m = true := by rw [hM]; cases wide <;> decide
  have T := Lib.hid (lim_two (n := n) hm h0 h7)
  have g0 : ¬ k < 0 := by omega
  have g7 : ¬ 7 < k := by omega
  have Z := Lib.hid (eq0_dec n)
  have R1 := fun v => right_calls k n 0 false m v
  have R2 := fun v => right_calls k 0 n false m v
  have I3 := Lib.hid (in3 n m)
  have FIN : ∀ v, Below w.heap.size w v → Below w.heap.size w (boxed (boxed v k n 0 false) k 0 n false) := fun v hv =>
    (hv.trans ((boxed_below v k n 0 false).mono hv.size)).trans ((boxed_below _ k 0 n false).mono (Nat.le_trans hv.size (boxed_below v k n 0 false).size))
  have HF := Lib.hid FIN
  clear FIN h0 h7 hm
  generalize right k n 0 m = r1 at *
  generalize right k 0 n m = r2 at *
  cases wide
  all_goals
    first | rw [if_pos rfl] at hM | rw [if_neg (by decide)] at hM
    subst hM
    rcases I3.out with ⟨a, hi⟩ | ⟨⟨a, b⟩, hi⟩ | ⟨⟨a, b⟩, hi⟩
    all_goals
      have HI := Lib.hid hi
      clear hi
      rcases T.out with ⟨rfl, t1, t2⟩ | ⟨hk, hk2, t1, t2⟩ | ⟨hk, hk2, t1, t2⟩
      all_goals
        first | (rw [HI.out] at t1) | (rw [← Z.out] at t1)
        first | (rw [HI.out] at t2) | (rw [← Z.out] at t2)
        subst t1 t2
        go_enter Try.func7, Try.ntmps7
        go_wp2_with fail
        refine (alive_calls w).mono ?_
        rintro e w' ⟨rfl, hb⟩
        go_wp2_with fail
        refine (R1 _).mono ?_
        rintro e w2 ⟨rfl, rfl⟩
        go_wp2_with fail
        refine (R2 _).mono ?_
        rintro e w3 ⟨rfl, rfl⟩
        have FB := HF.out _ hb
        go_wp2
        go_ret
        exact ⟨by first | (simp; done) | (simp; omega), FB⟩
theorem ControlLimits_walk (a0 : Int) (a1 : Int) (a2 : Bool) (w0 : (Lit.int .i64 a0).wf = true) (w1 : (Lit.int .i64 a1).wf = true) (w : World) :
    Calls Try.prog 7 #[.int .i64 a0, .int .i64 a1, .bool a2] w fun e w' => e = .returned (.bool true) ∧ Below w.heap.size w w' := by
  by_cases h : 0 ≤ a0 ∧ a0 ≤ 7
  · exact lim_near a0 a1 a2 w h.1 h.2
  · exact lim_far a0 a1 a2 w (by omega)
end Go.Proofs.Ythakcaofihacdaa

/- The law SerialWindows returns true at every input: a window of n numbers holds just n numbers, which follow one another from low on. No condition. -/
import Derived.Test.YtbannimamfkomaaSerialStepsWalk
namespace Go.Proofs.Ytbannimamfkomaa
open Go.RowKit
set_option linter.unusedVariables false
/-- How many of the numbers 0 .. x - 1 lie in the window of n from low on. -/
def cnt (low n m x : Int) : Int :=
  if low + n ≤ m then (if x ≤ low then 0 else if x - low ≤ n then x - low else n)
  else (if x ≤ low + n - m then x else low + n - m) + (if x ≤ low then 0 else x - low)
theorem inw_iff {low n m x : Int} (hm : 1 ≤ m) (hm2 : m ≤ 1073741824) (h0 : 0 ≤ low) (h1 : low < m) (x0 : 0 ≤ x) (x1 : x < m) :
    inw x low n m = decide ((low ≤ x ∧ x - low < n) ∨ (x < low ∧ x - low + m < n)) := by
  unfold inw
  by_cases c : low ≤ x
  · rw [dst_up hm hm2 h0 x1 c]; apply decide_eq_decide.2; omega
  · rw [dst_down hm hm2 h1 x0 (by omega)]; apply decide_eq_decide.2; omega
theorem cnt_yes {low n m x : Int} (hm : 1 ≤ m) (hm2 : m ≤ 1073741824) (h0 : 0 ≤ low) (h1 : low < m) (n0 : 0 ≤ n) (n1 : n ≤ m) (x0 : 0 ≤ x) (x1 : x < m) (h : inw x low n m = true) : cnt low n m (x + 1) = cnt low n m x + 1 := by
  rw [inw_iff hm hm2 h0 h1 x0 x1, decide_eq_true_iff] at h
  unfold cnt
  by_cases c : low + n ≤ m
  · simp only [if_pos c]; split <;> split <;> (try split) <;> (try split) <;> omega
  · simp only [if_neg c]; split <;> split <;> (try split) <;> (try split) <;> omega
theorem cnt_no {low n m x : Int} (hm : 1 ≤ m) (hm2 : m ≤ 1073741824) (h0 : 0 ≤ low) (h1 : low < m) (n0 : 0 ≤ n) (n1 : n ≤ m) (x0 : 0 ≤ x) (x1 : x < m) (h : inw x low n m = false) : cnt low n m (x + 1) = cnt low n m x := by
  rw [inw_iff hm hm2 h0 h1 x0 x1, decide_eq_false_iff_not] at h
  unfold cnt
  by_cases c : low + n ≤ m
  · simp only [if_pos c]; split <;> split <;> (try split) <;> (try split) <;> omega
  · simp only [if_neg c]; split <;> split <;> (try split) <;> (try split) <;> omega
theorem cnt_zero {low n m : Int} (h0 : 0 ≤ low) (n0 : 0 ≤ n) : cnt low n m 0 = 0 := by
  unfold cnt; by_cases c : low + n ≤ m
  · rw [if_pos c, if_pos (by omega)]
  · rw [if_neg c, if_pos (by omega), if_pos (by omega)]; omega
theorem cnt_all {low n m : Int} (h0 : 0 ≤ low) (h1 : low < m) (n0 : 0 ≤ n) (n1 : n ≤ m) : cnt low n m m = n := by
  unfold cnt
  split
  · rw [if_neg (by omega)]; split <;> omega
  · rw [if_neg (by omega), if_neg (by omega)]; omega
theorem cnt_bd {low n m x : Int} (h0 : 0 ≤ low) (h1 : low < m) (n0 : 0 ≤ n) (n1 : n ≤ m) (x0 : 0 ≤ x) (x1 : x ≤ m) : 0 ≤ cnt low n m x ∧ cnt low n m x ≤ m := by
  unfold cnt; split <;> split <;> (try split) <;> omega
theorem stp_in {low n m k : Int} (hm : 1 ≤ m) (hm2 : m ≤ 1073741824) (h0 : 0 ≤ low) (h1 : low < m) (k0 : 0 ≤ k) (k1 : k < m) : inw (stp low m k) low n m = decide (k < n) := by
  have b : 0 ≤ stp low m k ∧ stp low m k < m := by unfold stp; split <;> omega
  rw [inw_iff hm hm2 h0 h1 b.1 b.2]
  apply decide_eq_decide.2
  unfold stp; split <;> omega

set_option maxHeartbeats 8000000 in
theorem SerialWindows_walk (low n m : Int) (wl : (Lit.int .i64 low).wf = true) (wn : (Lit.int .i64 n).wf = true) (wm : (Lit.int .i64 m).wf = true) (w : World) :
    Calls Try.prog 6 #[.int .i64 low, .int .i64 n, .int .i64 m] w fun e w' => e = .returned (.bool true) ∧ Grown w w' := by
  have hl : I64 low := bounds_i64 wl
  have hm : I64 m := bounds_i64 wm
  clear wl wn wm
  by_cases c1 : m < 1
  · go_enter Try.func6, Try.ntmps6
    go_wp2_with fail
    refine (alive_calls _).mono ?_
    rintro e w' ⟨rfl, rfl⟩
    go_wp2
    go_ret
    exact ⟨rfl, Grown.refl _⟩
  by_cases c2 : 300 < m
  · go_enter Try.func6, Try.ntmps6
    go_wp2_with fail
    refine (alive_calls _).mono ?_
    rintro e w' ⟨rfl, rfl⟩
    go_wp2
    go_ret
    exact ⟨rfl, Grown.refl _⟩
  by_cases c3 : n < 0
  · go_enter Try.func6, Try.ntmps6
    go_wp2_with fail
    refine (alive_calls _).mono ?_
    rintro e w' ⟨rfl, rfl⟩
    go_wp2
    go_ret
    exact ⟨rfl, Grown.refl _⟩
  by_cases c4 : m < n
  · go_enter Try.func6, Try.ntmps6
    go_wp2_with fail
    refine (alive_calls _).mono ?_
    rintro e w' ⟨rfl, rfl⟩
    go_wp2
    go_ret
    exact ⟨rfl, Grown.refl _⟩
  by_cases c5 : low < 0
  · go_enter Try.func6, Try.ntmps6
    go_wp2_with fail
    refine (alive_calls _).mono ?_
    rintro e w' ⟨rfl, rfl⟩
    go_wp2
    go_ret
    exact ⟨rfl, Grown.refl _⟩
  by_cases c6 : m ≤ low
  · go_enter Try.func6, Try.ntmps6
    go_wp2_with fail
    refine (alive_calls _).mono ?_
    rintro e w' ⟨rfl, rfl⟩
    go_wp2
    go_ret
    exact ⟨rfl, Grown.refl _⟩
  have z := cnt_zero (low := low) (n := n) (m := m) (by omega) (by omega)
  have Z := Lib.hid z
  clear z
  go_enter Try.func6, Try.ntmps6
  go_wp2_with fail
  refine (alive_calls _).mono ?_
  rintro e w' ⟨rfl, rfl⟩
  go_wp2_with fail
  go_loop [8, 9] (fun c x => ∃ k : Int, 0 ≤ k ∧ k ≤ m ∧ c = .int .i64 (cnt low n m k) ∧ x = .int .i64 k) (fun _ x => (m - intOf x).toNat)
  case atStart => exact ⟨0, by omega, by omega, by rw [Z.out], rfl⟩
  case round =>
    obtain ⟨k, hk, hk2, rfl, rfl⟩ := hrel
    obtain ⟨s0, s1⟩ := cnt_bd (low := low) (n := n) (m := m) (x := k) (by omega) (by omega) (by omega) (by omega) hk hk2
    by_cases c : k < m
    · by_cases d : inw k low n m = true
      · have kn := fun w => in_calls k low n m w (by unfold I64; omega) hl hm
        rw [d] at kn
        have KN := Lib.hid kn
        have E := Lib.hid (cnt_yes (by omega) (by omega) (by omega) (by omega) (by omega) (by omega) hk c d)
        clear kn d
        go_wp2_with fail
        refine (KN.out _).mono ?_
        rintro e w' ⟨rfl, rfl⟩
        go_wp2
        go_round
        case rel => exact ⟨k + 1, by omega, by omega, by rw [E.out], rfl⟩
        case measure => simp [intOf]; omega
      · have d' : inw k low n m = false := by simpa using d
        have kn := fun w => in_calls k low n m w (by unfold I64; omega) hl hm
        rw [d'] at kn
        have KN := Lib.hid kn
        have E := Lib.hid (cnt_no (by omega) (by omega) (by omega) (by omega) (by omega) (by omega) hk c d')
        clear kn d d'
        go_wp2_with fail
        refine (KN.out _).mono ?_
        rintro e w' ⟨rfl, rfl⟩
        go_wp2
        go_round
        case rel => exact ⟨k + 1, by omega, by omega, by rw [E.out], rfl⟩
        case measure => simp [intOf]; omega
    · obtain rfl : k = m := by omega
      rw [cnt_all (by omega) (by omega) (by omega) (by omega)]
      clear s0 s1 hk hk2 c
      go_wp2_with fail
      go_loop [10, 11] (fun x i => ∃ j : Int, 0 ≤ j ∧ j ≤ n ∧ x = .int .i64 (stp low k j) ∧ i = .int .i64 j) (fun _ i => (n - intOf i).toNat)
      case atStart => exact ⟨0, by omega, by omega, by unfold stp; rw [if_pos (by omega)]; simp, rfl⟩
      case round =>
        obtain ⟨j, hj, hj2, rfl, rfl⟩ := hrel
        obtain ⟨s0, s1⟩ := stp_bd (a := low) (m := k) (k := j) (by omega) (by omega) hj (by omega)
        have kn := fun w => in_calls (stp low k j) low n k w (by unfold I64; omega) hl hm
        by_cases c : j < n
        · rw [stp_in (by omega) (by omega) (by omega) (by omega) hj (by omega), decide_eq_true c] at kn
          have KN := Lib.hid kn
          have kn2 := fun w => next_calls (stp low k j) k w (by unfold I64; omega) hm
          rw [stp_next (by omega) (by omega) (by omega) (by omega) hj (by omega)] at kn2
          have KN2 := Lib.hid kn2
          clear kn kn2
          go_wp2_with fail
          refine (KN.out _).mono ?_
          rintro e w' ⟨rfl, rfl⟩
          go_wp2_with fail
          refine (KN2.out _).mono ?_
          rintro e w' ⟨rfl, rfl⟩
          go_wp2
          go_round
          case rel => exact ⟨j + 1, by omega, by omega, rfl, rfl⟩
          case measure => simp [intOf]; omega
        · obtain rfl : j = n := by omega
          by_cases q : j = k
          · have q1 : (j == k) = true := by simpa using q
            clear q kn
            go_wp2
            go_ret
            exact ⟨rfl, Grown.refl _⟩
          · have q1 : (j == k) = false := by simpa using q
            rw [stp_in (by omega) (by omega) (by omega) (by omega) hj (by omega), decide_eq_false c] at kn
            have KN := Lib.hid kn
            clear q kn
            go_wp2_with fail
            refine (KN.out _).mono ?_
            rintro e w' ⟨rfl, rfl⟩
            go_wp2
            go_ret
            exact ⟨rfl, Grown.refl _⟩
end Go.Proofs.Ytbannimamfkomaa

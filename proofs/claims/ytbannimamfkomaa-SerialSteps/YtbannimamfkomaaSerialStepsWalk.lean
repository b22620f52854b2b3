/- The law SerialSteps returns true at every input: as many applications of Next as the distance lead from a to b, and no fewer. No condition. -/
import Derived.Test.YtbannimamfkomaaSerialWalks
namespace Go.Proofs.Ytbannimamfkomaa
open Go.RowKit
set_option linter.unusedVariables false
theorem mod_of {n m q r : Int} (h : n = r + m * q) (h0 : 0 ≤ r) (h1 : r < m) : n % m = r := by
  rw [h, Int.add_mul_emod_self_left, Int.emod_eq_of_lt h0 h1]
theorem dst_up {a b m : Int} (hm : 1 ≤ m) (hm2 : m ≤ 1073741824) (ha : 0 ≤ a) (hb : b < m) (h : a ≤ b) : dst a b m = b - a := by
  unfold dst; rw [lim_mid hm hm2]; exact mod_of (q := 0) (by omega) (by omega) (by omega)
theorem dst_down {a b m : Int} (hm : 1 ≤ m) (hm2 : m ≤ 1073741824) (ha : a < m) (hb : 0 ≤ b) (h : b < a) : dst a b m = b - a + m := by
  unfold dst; rw [lim_mid hm hm2]; exact mod_of (q := -1) (by omega) (by omega) (by omega)
theorem nxt_in {x m : Int} (hm : 1 ≤ m) (hm2 : m ≤ 1073741824) (h0 : 0 ≤ x) (h : x + 1 < m) : nxt x m = x + 1 := by
  unfold nxt; rw [lim_mid hm hm2, Int.emod_eq_of_lt h0 (by omega), Int.emod_eq_of_lt (by omega) h]
theorem nxt_end {x m : Int} (hm : 1 ≤ m) (hm2 : m ≤ 1073741824) (h0 : 0 ≤ x) (h : x + 1 = m) : nxt x m = 0 := by
  unfold nxt; rw [lim_mid hm hm2, Int.emod_eq_of_lt h0 (by omega), h, Int.emod_self]
/-- The number to which k steps lead from a. -/
def stp (a m k : Int) : Int := if a + k < m then a + k else a + k - m
theorem stp_next {a m k : Int} (hm : 1 ≤ m) (hm2 : m ≤ 1073741824) (ha : 0 ≤ a) (ha2 : a < m) (hk : 0 ≤ k) (hk2 : k < m) : nxt (stp a m k) m = stp a m (k + 1) := by
  unfold stp
  by_cases h : a + k < m
  · rw [if_pos h]
    by_cases h2 : a + k + 1 < m
    · rw [nxt_in hm hm2 (by omega) h2, if_pos (by omega)]; omega
    · rw [nxt_end hm hm2 (by omega) (by omega), if_neg (by omega)]; omega
  · rw [if_neg h, if_neg (by omega), nxt_in hm hm2 (by omega) (by omega)]; omega
theorem stp_bd {a m k : Int} (ha : 0 ≤ a) (ha2 : a < m) (hk : 0 ≤ k) (hk2 : k ≤ m) : 0 ≤ stp a m k ∧ stp a m k ≤ m := by unfold stp; split <;> omega
theorem stp_ne {a b m k : Int} (hm : 1 ≤ m) (hm2 : m ≤ 1073741824) (ha : 0 ≤ a) (ha2 : a < m) (hb : 0 ≤ b) (hb2 : b < m) (hk : 0 ≤ k) (h : k < dst a b m) : stp a m k ≠ b := by
  unfold stp
  by_cases c : a ≤ b
  · rw [dst_up hm hm2 ha hb2 c] at h; split <;> omega
  · rw [dst_down hm hm2 ha2 hb (by omega)] at h; split <;> omega
theorem stp_eq {a b m : Int} (hm : 1 ≤ m) (hm2 : m ≤ 1073741824) (ha : 0 ≤ a) (ha2 : a < m) (hb : 0 ≤ b) (hb2 : b < m) : stp a m (dst a b m) = b := by
  unfold stp
  by_cases c : a ≤ b
  · rw [dst_up hm hm2 ha hb2 c]; split <;> omega
  · rw [dst_down hm hm2 ha2 hb (by omega)]; split <;> omega

set_option maxHeartbeats 4000000 in
theorem SerialSteps_walk (a b m : Int) (wa : (Lit.int .i64 a).wf = true) (wb : (Lit.int .i64 b).wf = true) (wm : (Lit.int .i64 m).wf = true) (w : World) :
    Calls Try.prog 4 #[.int .i64 a, .int .i64 b, .int .i64 m] w fun e w' => e = .returned (.bool true) ∧ Grown w w' := by
  have ha : I64 a := bounds_i64 wa
  have hb : I64 b := bounds_i64 wb
  have hm : I64 m := bounds_i64 wm
  clear wa wb wm
  by_cases c1 : m < 1
  · go_enter Try.func4, Try.ntmps4
    go_wp2_with fail
    refine (alive_calls _).mono ?_
    rintro e w' ⟨rfl, rfl⟩
    go_wp2
    go_ret
    exact ⟨rfl, Grown.refl _⟩
  by_cases c2 : 300 < m
  · go_enter Try.func4, Try.ntmps4
    go_wp2_with fail
    refine (alive_calls _).mono ?_
    rintro e w' ⟨rfl, rfl⟩
    go_wp2
    go_ret
    exact ⟨rfl, Grown.refl _⟩
  by_cases c3 : a < 0
  · go_enter Try.func4, Try.ntmps4
    go_wp2_with fail
    refine (alive_calls _).mono ?_
    rintro e w' ⟨rfl, rfl⟩
    go_wp2
    go_ret
    exact ⟨rfl, Grown.refl _⟩
  by_cases c4 : m ≤ a
  · go_enter Try.func4, Try.ntmps4
    go_wp2_with fail
    refine (alive_calls _).mono ?_
    rintro e w' ⟨rfl, rfl⟩
    go_wp2
    go_ret
    exact ⟨rfl, Grown.refl _⟩
  by_cases c5 : b < 0
  · go_enter Try.func4, Try.ntmps4
    go_wp2_with fail
    refine (alive_calls _).mono ?_
    rintro e w' ⟨rfl, rfl⟩
    go_wp2
    go_ret
    exact ⟨rfl, Grown.refl _⟩
  by_cases c6 : m ≤ b
  · go_enter Try.func4, Try.ntmps4
    go_wp2_with fail
    refine (alive_calls _).mono ?_
    rintro e w' ⟨rfl, rfl⟩
    go_wp2
    go_ret
    exact ⟨rfl, Grown.refl _⟩
  have d0 := dst_lo a b m
  have d1 := dst_hi a b m
  rw [lim_mid (by omega) (by omega)] at d1
  go_enter Try.func4, Try.ntmps4
  go_wp2_with fail
  refine (alive_calls _).mono ?_
  rintro e w' ⟨rfl, rfl⟩
  go_wp2_with fail
  refine (dist_calls a b m _ ha hb hm).mono ?_
  rintro e w' ⟨rfl, rfl⟩
  go_wp2_with fail
  go_loop [8, 9] (fun x i => ∃ k : Int, 0 ≤ k ∧ k ≤ dst a b m ∧ x = .int .i64 (stp a m k) ∧ i = .int .i64 (dst a b m - k)) (fun _ i => (intOf i).toNat)
  case atStart => exact ⟨0, by omega, by omega, by unfold stp; rw [if_pos (by omega)]; simp, by simp⟩
  case round =>
    obtain ⟨k, hk, hk2, rfl, rfl⟩ := hrel
    obtain ⟨s0, s1⟩ := stp_bd (a := a) (m := m) (k := k) (by omega) (by omega) hk (by omega)
    by_cases c : k < dst a b m
    · have ne : (stp a m k == b) = false := by
        have := stp_ne (a := a) (b := b) (m := m) (k := k) (by omega) (by omega) (by omega) (by omega) (by omega) (by omega) hk c
        simpa using this
      have kn := fun w => next_calls (stp a m k) m w (by unfold I64; omega) hm
      rw [stp_next (by omega) (by omega) (by omega) (by omega) hk (by omega)] at kn
      have KN := Lib.hid kn
      clear kn
      go_wp2_with fail
      refine (KN.out _).mono ?_
      rintro e w' ⟨rfl, rfl⟩
      go_wp2
      go_round
      case rel => exact ⟨k + 1, by omega, by omega, rfl, by go_num⟩
      case measure => simp [intOf]; omega
    · have e : k = dst a b m := by omega
      have q : (stp a m k == b) = true := by
        have := stp_eq (a := a) (b := b) (m := m) (by omega) (by omega) (by omega) (by omega) (by omega) (by omega)
        rw [e, this]; simp
      clear e
      go_wp2
      go_ret
      exact ⟨rfl, Grown.refl _⟩
end Go.Proofs.Ytbannimamfkomaa

/- The law SerialRounds returns true at every input: there and back is once round or nothing, distances add up, and m more turns nothing. No condition. -/
import Derived.Test.YtbannimamfkomaaSerialStepsWalk
import Derived.Deep.QuietTactic
import Derived.BigQuiet
namespace Go.Proofs.Ytbannimamfkomaa
open Go.RowKit
set_option linter.unusedVariables false
theorem back_zero {a b m : Int} (h : dst a b m = 0) : dst b a m = 0 := by
  unfold dst at *
  rw [show a - b = -(b - a) from by omega]
  exact Int.emod_eq_zero_of_dvd (Int.dvd_neg.2 (Int.dvd_of_emod_eq_zero h))
theorem back_sum {a b m : Int} (h : dst a b m ≠ 0) : dst a b m + dst b a m = lim m := by
  have p := lim_pos m
  have l := dst_lo a b m
  have u := dst_hi a b m
  have d : b - a = lim m * ((b - a) / lim m) + dst a b m := by unfold dst; exact (Int.mul_ediv_add_emod _ _).symm
  have e : dst b a m = lim m - dst a b m := by
    show (a - b) % lim m = _
    refine mod_of (q := -((b - a) / lim m) - 1) ?_ (by omega) (by omega)
    rw [Int.mul_sub, Int.mul_neg]; omega
  omega
theorem dst_add (a b c m : Int) : (dst a b m + dst b c m) % lim m = dst a c m := by
  unfold dst; rw [← Int.add_emod]; congr 1; omega
theorem dst_more (a b m : Int) (h1 : 1 ≤ m) (h2 : m ≤ 1073741824) : dst (a + m) b m = dst a b m := by
  unfold dst; rw [lim_mid h1 h2, show b - (a + m) = (b - a) + m * (-1) from by omega, Int.add_mul_emod_self_left]
theorem dst_next (a m : Int) (h1 : 1 ≤ m) (h2 : m ≤ 1073741824) : dst a (nxt a m) m = 1 % m := by
  unfold dst nxt; rw [lim_mid h1 h2, Int.emod_sub_emod, Int.sub_emod, Int.emod_add_emod, ← Int.sub_emod]
  congr 1; omega

theorem grown_drewN (w : World) (n : Nat) : Grown w (w.drewN n) := Grown.refl w
theorem dist_q (a b m : Int) (w : World) (ha : I64 a) (hb : I64 b) (hm : I64 m) :
    Calls Try.prog 11 #[.int .i64 a, .int .i64 b, .int .i64 m] w fun e w' => e = .returned (.int .i64 (dst a b m)) ∧ w' = w :=
  (dist_calls a b m w ha hb hm).mono fun _ _ h => ⟨h.1, h.2.symm⟩
theorem next_q (n m : Int) (w : World) (hn : I64 n) (hm : I64 m) :
    Calls Try.prog 9 #[.int .i64 n, .int .i64 m] w fun e w' => e = .returned (.int .i64 (nxt n m)) ∧ w' = w :=
  (next_calls n m w hn hm).mono fun _ _ h => ⟨h.1, h.2.symm⟩

set_option maxHeartbeats 8000000 in
theorem SerialRounds_walk (a b c m : Int) (wa : (Lit.int .i64 a).wf = true) (wb : (Lit.int .i64 b).wf = true) (wc : (Lit.int .i64 c).wf = true) (wm : (Lit.int .i64 m).wf = true) (w : World) :
    Calls Try.prog 5 #[.int .i64 a, .int .i64 b, .int .i64 c, .int .i64 m] w fun e w' => e = .returned (.bool true) ∧ Grown w w' := by
  have ha : I64 a := bounds_i64 wa
  have hb : I64 b := bounds_i64 wb
  have hc : I64 c := bounds_i64 wc
  have hm : I64 m := bounds_i64 wm
  clear wa wb wc wm
  by_cases c1 : m < 1
  · go_enter Try.func5, Try.ntmps5
    go_wp2_with fail
    refine (alive_calls _).mono ?_
    rintro e w' ⟨rfl, rfl⟩
    go_wp2
    go_ret
    exact ⟨rfl, Grown.refl _⟩
  by_cases c2 : 1073741824 < m
  · go_enter Try.func5, Try.ntmps5
    go_wp2_with fail
    refine (alive_calls _).mono ?_
    rintro e w' ⟨rfl, rfl⟩
    go_wp2
    go_ret
    exact ⟨rfl, Grown.refl _⟩
  by_cases c3 : 1099511627776 < a
  · go_enter Try.func5, Try.ntmps5
    go_wp2_with fail
    refine (alive_calls _).mono ?_
    rintro e w' ⟨rfl, rfl⟩
    go_wp2
    go_ret
    exact ⟨rfl, Grown.refl _⟩
  by_cases c4 : a < -1099511627776
  · go_enter Try.func5, Try.ntmps5
    go_wp2_with fail
    refine (alive_calls _).mono ?_
    rintro e w' ⟨rfl, rfl⟩
    go_wp2
    go_ret
    exact ⟨rfl, Grown.refl _⟩
  have u1 := dst_hi a b m
  have u2 := dst_hi b a m
  have u3 := dst_hi b c m
  have v1 := dst_lo a b m
  have v2 := dst_lo b a m
  have v3 := dst_lo b c m
  have L := Lib.hid (lim_mid (m := m) (by omega) (by omega))
  rw [L.out] at u1 u2 u3
  have hn : I64 (nxt a m) := by have := nxt_lo a m; have := nxt_hi a m; rw [L.out] at this; unfold I64; omega
  have ham : I64 (a + m) := by unfold I64; omega
  have e1 : ((dst a b m + dst b c m) % m == dst a c m) = true := by have := dst_add a b c m; rw [L.out] at this; simp [this]
  have e2 : (dst (a + m) b m == dst a b m) = true := by simp [dst_more a b m (by omega) (by omega)]
  have e3 : (dst a (nxt a m) m == 1 % m) = true := by simp [dst_next a m (by omega) (by omega)]
  by_cases z : dst a b m = 0
  · have z1 : (dst a b m == 0) = true := by simpa using z
    have z2 : (dst b a m == 0) = true := by simpa using back_zero z
    clear z
    go_enter Try.func5, Try.ntmps5
    go_wp2_with fail
    refine (alive_calls _).mono ?_
    rintro e w' ⟨rfl, rfl⟩
    go_wp2_with fail
    refine (dist_calls a b m _ ha hb hm).mono ?_
    rintro e w' ⟨rfl, rfl⟩
    go_wp2_with fail
    refine (dist_calls b a m _ hb ha hm).mono ?_
    rintro e w' ⟨rfl, rfl⟩
    go_wp2_with fail
    go_quiet (first | (go_at_call 11; exact Calls.quiet_of_same (dist_q _ _ _ _ (by assumption) (by assumption) (by assumption))) | (go_at_call 9; exact Calls.quiet_of_same (next_q _ _ _ (by assumption) (by assumption))))
    go_wp2
    go_ret
    exact ⟨rfl, grown_drewN _ _⟩
  · have z1 : (dst a b m == 0) = false := by simpa using z
    have z2 : (dst a b m + dst b a m == m) = true := by have := back_sum z; rw [L.out] at this; simpa using this
    clear z
    go_enter Try.func5, Try.ntmps5
    go_wp2_with fail
    refine (alive_calls _).mono ?_
    rintro e w' ⟨rfl, rfl⟩
    go_wp2_with fail
    refine (dist_calls a b m _ ha hb hm).mono ?_
    rintro e w' ⟨rfl, rfl⟩
    go_wp2_with fail
    refine (dist_calls b a m _ hb ha hm).mono ?_
    rintro e w' ⟨rfl, rfl⟩
    go_wp2_with fail
    go_quiet (first | (go_at_call 11; exact Calls.quiet_of_same (dist_q _ _ _ _ (by assumption) (by assumption) (by assumption))) | (go_at_call 9; exact Calls.quiet_of_same (next_q _ _ _ (by assumption) (by assumption))))
    go_wp2
    go_ret
    exact ⟨rfl, grown_drewN _ _⟩
end Go.Proofs.Ytbannimamfkomaa

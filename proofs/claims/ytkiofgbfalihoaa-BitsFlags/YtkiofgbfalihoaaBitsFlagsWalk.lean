/- The law BitsFlags, walked. Condition: the slice reads as its bits. -/
import Derived.Test.YtkiofgbfalihoaaBitAlive
namespace Go.Proofs.Ytkiofgbfalihoaa
open Go.RowKit
open Bit
set_option linter.unusedVariables false

theorem BitsFlags_far (A : Option Addr) (n c : Nat) (w : World) (hl : 500 < n) (hm : n ≤ 9223372036854775807) :
    Calls Try.prog 5 #[.slice A n c] w fun e w' => e = .returned (.bool true) ∧ Below w.heap.size w w' := by
  go_enter Try.func5, Try.ntmps5
  go_wp2_with fail
  refine (alive_calls w).mono ?_
  rintro e w' ⟨rfl, hb⟩
  go_wp2
  go_ret
  exact ⟨rfl, hb⟩
set_option maxHeartbeats 2000000 in
theorem BitsFlags_near (A : Option Addr) (c : Nat) (l : List UInt8) (w : World) (hr : Rd w A l) (hl : l.length ≤ 500) :
    Calls Try.prog 5 #[.slice A l.length c] w fun e w' => e = .returned (.bool true) ∧ Below w.heap.size w w' := by
  have hlen := stuff_len l 0 (by omega)
  have hcalm := Lib.hid (stuff_calm l 0 (by omega))
  have SC := Lib.hid (fun (w : World) (hr : Rd w A l) => stuff_calls A c l w hr (by omega))
  generalize stuff 0 l = s at *
  rw [Nat.add_zero] at hlen
  go_enter Try.func5, Try.ntmps5
  go_wp2_with fail
  refine (alive_calls w).mono ?_
  rintro e W ⟨rfl, hb⟩
  go_wp2_with fail
  refine (SC.out W (hr.below hb)).mono ?_
  rintro e w2 ⟨A2, c2, rfl, own2, bel2⟩
  have r2 := own2.rd
  have b2 := hb.trans (bel2.mono hb.size)
  clear own2
  go_wp2_with fail
  go_loop [5, 6] (fun o i => ∃ k n : Nat, k ≤ s.length ∧ n ≤ 5 ∧ i = .int .i64 k ∧ o = .int .i64 n ∧ calm n (s.drop k)) (fun _ i => s.length - (intOf i).toNat)
  case atStart => exact ⟨0, 0, Nat.zero_le _, Nat.zero_le _, rfl, rfl, hcalm.out⟩
  case round =>
    obtain ⟨k, n, hk, hn, rfl, rfl, hcm⟩ := hrel
    by_cases hlt : k < s.length
    · obtain ⟨b, off, rfl, _, hc⟩ := r2.at_ hlt
      have hg : s.getD k 0 = s[k] := by simp [hlt]
      rw [hg] at hc
      clear hg
      unfold bv at hc
      rcases calm_at hlt hcm with ⟨h0, hc0⟩ | ⟨h1, h5, hc1⟩
      · rw [h0] at hc
        have HC := Lib.hid hc0
        have hc' : w2.cell? ⟨b, off + k, none⟩ = some (.int .u8 0) := hc
        clear hc h0 hcm hc0
        go_wp2
        go_round
        case rel => exact ⟨k + 1, 0, by omega, by omega, by go_num, rfl, HC.out⟩
        case measure => simp [intOf]; omega
      · rw [h1] at hc
        have HC := Lib.hid hc1
        have hc' : w2.cell? ⟨b, off + k, none⟩ = some (.int .u8 1) := hc
        clear hc h1 hcm hc1
        go_wp2
        go_round
        case rel => exact ⟨k + 1, n + 1, by omega, by omega, by go_num, by go_num, HC.out⟩
        case measure => simp [intOf]; omega
    · clear hcm
      have i1 : (s.length : Int) ≤ (l.length : Int) + (l.length : Int) / 5 := by omega
      go_wp2
      go_ret
      exact ⟨rfl, b2⟩
theorem BitsFlags_walk (a0 : Option Addr) (len0 cap0 : Nat) (z0 : List Int) (w : World)
    (h : (a0 = none ∧ len0 = 0 ∧ cap0 = 0 ∧ z0 = []) ∨ ∃ x, a0 = some x ∧ len0 ≤ cap0 ∧ cap0 ≤ maxLen ∧ z0.length = cap0 ∧ (∀ i, i < z0.length → w.cell? (x.add i) = some (.int .u8 (z0.getD i 0))) ∧ ∀ n ∈ z0, (Lit.int .u8 n).wf = true) :
    Calls Try.prog 5 #[.slice a0 len0 cap0] w fun e w' => e = .returned (.bool true) ∧ Below w.heap.size w w' := by
  obtain ⟨l, rfl, hc, hm, hr⟩ := Rd.of_row h
  by_cases hl : l.length ≤ 500
  · exact BitsFlags_near a0 cap0 l w hr hl
  · exact BitsFlags_far a0 l.length cap0 w (by omega) (by unfold maxLen at hm; omega)
end Go.Proofs.Ytkiofgbfalihoaa

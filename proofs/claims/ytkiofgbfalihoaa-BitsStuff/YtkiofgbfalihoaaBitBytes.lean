/- Bytes of the program and of the reference: each returns what the plain mathematics tells. Condition: the slice reads as the bits, of which there are at most 2^20. -/
import Derived.Test.YtkiofgbfalihoaaBitOf
import Derived.Test.YtkiofgbfalihoaaBytesSet
import Derived.StillTailTactics
namespace Go.Proofs.Ytkiofgbfalihoaa
open Go.RowKit
open Bit
set_option linter.unusedVariables false

/-- what the bits come to -/
def pack (l : List UInt8) : List UInt8 × Int := if l.length % 8 = 0 then (packN (l.length / 8) l, 0) else ([], 2)
theorem bit_calls (c : UInt8) (w : World) : Calls Try.prog 19 #[.int .u8 (c.toNat : Int)] w fun e w' => e = .returned (.int .u8 ((one c).toNat : Int)) ∧ w' = w := by
  by_cases h : c = 0
  · refine (bit_0 c w h).mono ?_
    rintro e w' ⟨rfl, rfl⟩
    exact ⟨by rw [one_zero h]; rfl, rfl⟩
  · refine (bit_1 c w h).mono ?_
    rintro e w' ⟨rfl, rfl⟩
    exact ⟨by rw [one_one h]; rfl, rfl⟩
theorem one_calls (c : UInt8) (w : World) : Calls Try.prog 20 #[.int .u8 (c.toNat : Int)] w fun e w' => e = .returned (.int .u8 ((one c).toNat : Int)) ∧ w' = w := by
  by_cases h : c = 0
  · refine (one_0 c w h).mono ?_
    rintro e w' ⟨rfl, rfl⟩
    exact ⟨by rw [one_zero h]; rfl, rfl⟩
  · refine (one_1 c w h).mono ?_
    rintro e w' ⟨rfl, rfl⟩
    exact ⟨by rw [one_one h]; rfl, rfl⟩

theorem shl_bit (c : UInt8) (t : Nat) (ht : t < 8) : ((one c).toNat : Int) * 2 ^ t % 256 = ((sh c t).toNat : Int) := by
  unfold sh
  rcases one_le c with h | h <;> rw [h]
  · have : ∀ t, t < 8 → ((0 : UInt8).toNat : Int) * 2 ^ t % 256 = (((0 : UInt8) <<< UInt8.ofNat t).toNat : Int) := by decide
    exact this t ht
  · have : ∀ t, t < 8 → ((1 : UInt8).toNat : Int) * 2 ^ t % 256 = (((1 : UInt8) <<< UInt8.ofNat t).toNat : Int) := by decide
    exact this t ht
theorem or_bit (y c : UInt8) (t : Nat) (ht : t < 8) : bits .or .u8 (y.toNat : Int) (((one c).toNat : Int) * 2 ^ t % 256) = ((y ||| sh c t).toNat : Int) := by
  rw [shl_bit c t ht, u8_or_nat _ _ y.toNat_lt (sh c t).toNat_lt, UInt8.toNat_or]

theorem bytes_bad (A : Option Addr) (c n : Nat) (w : World) (hn : n ≤ 1048576) (h8 : n % 8 ≠ 0) :
    Calls Try.prog 12 #[.slice A n c] w fun e w' => e = .returned (.tuple #[.slice none 0 0, .int .i64 2]) ∧ w = w' := by
  go_enter Try.func12, Try.ntmps12
  go_wp2
  go_ret2
  exact ⟨rfl, rfl⟩
set_option maxHeartbeats 1000000 in
theorem bytes_good (A : Option Addr) (c : Nat) (l : List UInt8) (m : Nat) (w : World) (hr : Rd w A l) (hm : m ≤ 131072) (h8 : Hid (l.length = 8 * m)) :
    Calls Try.prog 12 #[.slice A (8 * m) c] w fun e w' => ∃ B d, e = .returned (.tuple #[.slice B m d, .int .i64 0]) ∧ Rd w' B (packN m l) ∧ Below w.heap.size w w' := by
  have hmk := run_made m (by omega)
  go_enter Try.func12, Try.ntmps12
  go_wp2
  have own0 := made_own m (by omega) w
  have bel0 := laid_below w (List.replicate m 0)
  generalize laid w (List.replicate m 0) = W1 at own0 bel0
  rw [← packN_none m l] at own0
  clear hmk
  go_loopw [17] (fun i wr => ∃ k : Nat, k ≤ 8 * m ∧ i = .int .i64 k ∧ Own wr w.heap.size (some ⟨w.heap.size, 0, none⟩) m (packN m (l.take k)) ∧ Below w.heap.size w wr) (fun i _ => 8 * m - (intOf i).toNat)
  case atStart => exact ⟨0, Nat.zero_le _, rfl, own0, bel0⟩
  case round =>
    obtain ⟨k, hk, rfl, own, bel⟩ := hrel
    clear own0 bel0
    by_cases hlt : k < 8 * m
    · have hkl : k < l.length := by rw [h8.out]; exact hlt
      obtain ⟨b, off, rfl, hb, hc⟩ := (hr.below bel).at_ hkl
      have hg : l.getD k 0 = l[k] := by simp [hkl]
      rw [hg] at hc
      have hst := packN_step m l k hkl (by omega)
      obtain ⟨g, hA, _, hcell, hfrz, hset⟩ := own.place (j := k / 8) (by rw [packN_len]; omega)
      injection hA with hA
      injection hA with hA
      subst hA
      rw [packN_getD _ _ _ (by omega)] at hcell
      have own2 := hset (byteAt (l.take k) (k / 8) ||| sh l[k] (k % 8))
      rw [← hst] at own2
      unfold bv at hc hcell
      have bc := bit_calls l[k]
      have hor := or_bit (byteAt (l.take k) (k / 8)) l[k] (k % 8) (by omega)
      generalize byteAt (l.take k) (k / 8) = y at hcell own2 hor
      clear hset hst hg own
      generalize l[k] = x at hc own2 bc hor
      generalize one x = z at bc hor
      obtain ⟨j, hj⟩ : ∃ j, k / 8 = j := ⟨_, rfl⟩
      obtain ⟨t, ht⟩ : ∃ t, k % 8 = t := ⟨_, rfl⟩
      have q1 : IntKind.i64.wrap ((k : Int) / 8) = (j : Int) := by rw [IntKind.wrap_i64]; omega
      have q2 : (k : Int).tmod 8 = (t : Int) := by rw [Int.tmod_eq_emod_of_nonneg (by omega)]; omega
      have q3 : (0 : Int) ≤ (j : Int) := by omega
      have q4 : (j : Int) < (m : Int) := by omega
      have q5 : (0 : Int) ≤ (t : Int) := by omega
      have q6 : t < 8 := by omega
      rw [hj] at hcell hfrz own2
      rw [ht] at own2 hor
      generalize y ||| sh x t = q at own2 hor
      go_wp2
      refine wp_region_still_tail 12 (by kernel_rfl) (by kernel_rfl) ?_
      simp only [List.take_succ_cons, List.take_zero, List.drop_succ_cons, List.drop_zero]
      repeat still_step
      still_call (bc _)
      repeat still_step
      refine wpStill_nil ?_
      go_wp2
      go_roundw
      case rel => exact ⟨k + 1, by omega, by go_num, own2, (bel.setCell (p := ⟨w.heap.size, j, none⟩) (Nat.le_refl _) _).drew⟩
      case measure => simp [intOf]; omega
    · have ht : l.take k = l := List.take_of_length_le (by rw [h8.out]; omega)
      rw [ht] at own
      clear ht
      go_wp2
      go_ret2
      exact ⟨_, _, rfl, own.rd, bel⟩
theorem refBytes_bad (A : Option Addr) (c n : Nat) (w : World) (hn : n ≤ 1048576) (h8 : n % 8 ≠ 0) :
    Calls Try.prog 17 #[.slice A n c] w fun e w' => e = .returned (.tuple #[.slice none 0 0, .int .i64 2]) ∧ w = w' := by
  go_enter Try.func17, Try.ntmps17
  go_wp2
  go_ret2
  exact ⟨rfl, rfl⟩
set_option maxHeartbeats 1000000 in
theorem refBytes_good (A : Option Addr) (c : Nat) (l : List UInt8) (m : Nat) (w : World) (hr : Rd w A l) (hm : m ≤ 131072) (h8 : Hid (l.length = 8 * m)) :
    Calls Try.prog 17 #[.slice A (8 * m) c] w fun e w' => ∃ B d, e = .returned (.tuple #[.slice B m d, .int .i64 0]) ∧ Rd w' B (packN m l) ∧ Below w.heap.size w w' := by
  go_enter Try.func17, Try.ntmps17
  go_wp2
  go_loopw [4, 5] (fun v i wr => ∃ (k : Nat) (B : Option Addr) (d : Nat), k ≤ 8 * m ∧ i = .int .i64 k ∧ v = .slice B ((k + 7) / 8) d ∧ Own wr w.heap.size B d (packN ((k + 7) / 8) (l.take k)) ∧ Below w.heap.size w wr) (fun _ i _ => 8 * m - (intOf i).toNat)
  case atStart => exact ⟨0, none, 0, Nat.zero_le _, rfl, rfl, Own.nil _ _, Below.refl _ _⟩
  case round =>
    obtain ⟨k, B, d, hk, rfl, rfl, own, bel⟩ := hrel
    by_cases hlt : k < 8 * m
    · have hkl : k < l.length := by rw [h8.out]; exact hlt
      by_cases h0 : k % 8 = 0
      · obtain ⟨A', c', w1, run, own1, bel'⟩ := app_new wr w.heap.size B d _ [0] own bel.size (by rw [packN_len]; simp; omega)
        have bel1 := bel.trans bel'
        have e7 : (k + 7) / 8 = k / 8 := by omega
        have eg := packN_grow l (k / 8)
        rw [show 8 * (k / 8) = k by omega] at eg
        rw [e7, ← eg] at run own1
        rw [packN_len, packN_len] at run
        rw [e7]
        clear own eg e7
        have g0 : (k : Int).tmod 8 = 0 := by rw [Int.tmod_eq_emod_of_nonneg (by omega)]; omega
        obtain ⟨g, rfl, hg0, hcell, hfrz, hset⟩ := own1.place (j := k / 8) (by rw [packN_len]; omega)
        rw [packN_getD _ _ _ (by omega)] at hcell
        have own2 := hset (byteAt (l.take k) (k / 8) ||| sh l[k] (k % 8))
        rw [← packN_step (k / 8 + 1) l k hkl (by omega)] at own2
        obtain ⟨b, off, rfl, hb, hc⟩ := (hr.below bel1).at_ hkl
        have hg : l.getD k 0 = l[k] := by simp [hkl]
        rw [hg] at hc
        unfold bv at hc hcell
        have bc := one_calls l[k]
        have hor := or_bit (byteAt (l.take k) (k / 8)) l[k] (k % 8) (by omega)
        generalize byteAt (l.take k) (k / 8) = y at hcell own2 hor
        clear hset hg own1
        generalize l[k] = x at hc own2 bc hor
        generalize one x = z at bc hor
        obtain ⟨j, hj⟩ : ∃ j, k / 8 = j := ⟨_, rfl⟩
        obtain ⟨t, ht⟩ : ∃ t, k % 8 = t := ⟨_, rfl⟩
        have e8 : (k + 1 + 7) / 8 = j + 1 := by omega
        rw [hj] at hcell hfrz own2
        rw [ht] at own2 hor
        rw [← e8] at own2
        generalize y ||| sh x t = q at own2 hor
        have q1 : IntKind.i64.wrap ((k : Int) / 8) = (j : Int) := by rw [IntKind.wrap_i64]; omega
        have q2 : (k : Int).tmod 8 = (t : Int) := by rw [Int.tmod_eq_emod_of_nonneg (by omega)]; omega
        have q3 : (0 : Int) ≤ (j : Int) := by omega
        have q4 : (j : Int) < (j : Int) + 1 := by omega
        have q5 : (0 : Int) ≤ (t : Int) := by omega
        have q6 : t < 8 := by omega
        have q7 : IntKind.u64.wrap (t : Int) = (t : Int) := by rw [IntKind.wrap_u64]; omega
        have q8 : (k : Int) < 8 * (m : Int) := by omega
        have q9 : (0 : Int) ≤ (k : Int) := by omega
        rw [hj] at run
        rw [hj]
        clear h0
        go_wp2_with (at_builtin; refine Lib.wpList_append_run _ rfl _ _ _ _ rfl _ _ rfl rfl _ _ (run _) ?_)
        clear g0
        refine wp_region_still_tail 19 (by kernel_rfl) (by kernel_rfl) ?_
        simp only [List.take_succ_cons, List.take_zero, List.drop_succ_cons, List.drop_zero]
        repeat still_step
        still_call (bc _)
        repeat still_step
        refine wpStill_nil ?_
        go_wp2
        go_roundw
        case rel => exact ⟨k + 1, _, _, by omega, by go_num, by rw [e8], own2, (bel1.setCell (p := ⟨g, j, none⟩) hg0 _).drew⟩
        case measure => simp [intOf]; omega
      · have e7 : (k + 7) / 8 = k / 8 + 1 := by omega
        rw [e7] at own
        rw [e7]
        have own1 := own
        have bel1 := bel
        clear own bel e7
        obtain ⟨g, rfl, hg0, hcell, hfrz, hset⟩ := own1.place (j := k / 8) (by rw [packN_len]; omega)
        rw [packN_getD _ _ _ (by omega)] at hcell
        have own2 := hset (byteAt (l.take k) (k / 8) ||| sh l[k] (k % 8))
        rw [← packN_step (k / 8 + 1) l k hkl (by omega)] at own2
        obtain ⟨b, off, rfl, hb, hc⟩ := (hr.below bel1).at_ hkl
        have hg : l.getD k 0 = l[k] := by simp [hkl]
        rw [hg] at hc
        unfold bv at hc hcell
        have bc := one_calls l[k]
        have hor := or_bit (byteAt (l.take k) (k / 8)) l[k] (k % 8) (by omega)
        generalize byteAt (l.take k) (k / 8) = y at hcell own2 hor
        clear hset hg own1
        generalize l[k] = x at hc own2 bc hor
        generalize one x = z at bc hor
        obtain ⟨j, hj⟩ : ∃ j, k / 8 = j := ⟨_, rfl⟩
        obtain ⟨t, ht⟩ : ∃ t, k % 8 = t := ⟨_, rfl⟩
        have e8 : (k + 1 + 7) / 8 = j + 1 := by omega
        rw [hj] at hcell hfrz own2
        rw [ht] at own2 hor
        rw [← e8] at own2
        generalize y ||| sh x t = q at own2 hor
        have q1 : IntKind.i64.wrap ((k : Int) / 8) = (j : Int) := by rw [IntKind.wrap_i64]; omega
        have q2 : (k : Int).tmod 8 = (t : Int) := by rw [Int.tmod_eq_emod_of_nonneg (by omega)]; omega
        have q3 : (0 : Int) ≤ (j : Int) := by omega
        have q4 : (j : Int) < (j : Int) + 1 := by omega
        have q5 : (0 : Int) ≤ (t : Int) := by omega
        have q6 : t < 8 := by omega
        have q7 : IntKind.u64.wrap (t : Int) = (t : Int) := by rw [IntKind.wrap_u64]; omega
        have q8 : (k : Int) < 8 * (m : Int) := by omega
        have q9 : (0 : Int) ≤ (k : Int) := by omega
        rw [hj]
        go_wp2
        refine wp_region_still_tail 19 (by kernel_rfl) (by kernel_rfl) ?_
        simp only [List.take_succ_cons, List.take_zero, List.drop_succ_cons, List.drop_zero]
        repeat still_step
        still_call (bc _)
        repeat still_step
        refine wpStill_nil ?_
        go_wp2
        go_roundw
        case rel => exact ⟨k + 1, _, _, by omega, by go_num, by rw [e8], own2, (bel1.setCell (p := ⟨g, j, none⟩) hg0 _).drew⟩
        case measure => simp [intOf]; omega
    · have e7 : (k + 7) / 8 = m := by omega
      have ht : l.take k = l := List.take_of_length_le (by rw [h8.out]; omega)
      rw [e7, ht] at own
      rw [e7]
      clear ht e7
      go_wp2
      go_ret2
      exact ⟨_, _, rfl, own.rd, bel⟩
theorem bytes_calls (A : Option Addr) (c : Nat) (l : List UInt8) (w : World) (hr : Rd w A l) (hl : l.length ≤ 1048576) :
    Calls Try.prog 12 #[.slice A l.length c] w (Gives2 (pack l) w) := by
  by_cases h8 : l.length % 8 = 0
  · obtain ⟨m, hm⟩ : ∃ m, l.length = 8 * m := ⟨l.length / 8, by omega⟩
    have hp : pack l = (packN m l, 0) := by unfold pack; rw [if_pos h8, show l.length / 8 = m by omega]
    rw [hp, hm]
    refine (bytes_good A c l m w hr (by omega) (Lib.hid hm)).mono ?_
    rintro e w' ⟨B, d, rfl, hr', hb⟩
    exact ⟨B, d, by rw [packN_len], hr', hb⟩
  · have hp : pack l = ([], 2) := by unfold pack; rw [if_neg h8]
    rw [hp]
    refine (bytes_bad A c l.length w hl h8).mono ?_
    rintro e w' ⟨rfl, rfl⟩
    exact gives2_bad rfl (Below.refl _ _)
theorem refBytes_calls (A : Option Addr) (c : Nat) (l : List UInt8) (w : World) (hr : Rd w A l) (hl : l.length ≤ 1048576) :
    Calls Try.prog 17 #[.slice A l.length c] w (Gives2 (pack l) w) := by
  by_cases h8 : l.length % 8 = 0
  · obtain ⟨m, hm⟩ : ∃ m, l.length = 8 * m := ⟨l.length / 8, by omega⟩
    have hp : pack l = (packN m l, 0) := by unfold pack; rw [if_pos h8, show l.length / 8 = m by omega]
    rw [hp, hm]
    refine (refBytes_good A c l m w hr (by omega) (Lib.hid hm)).mono ?_
    rintro e w' ⟨B, d, rfl, hr', hb⟩
    exact ⟨B, d, by rw [packN_len], hr', hb⟩
  · have hp : pack l = ([], 2) := by unfold pack; rw [if_neg h8]
    rw [hp]
    refine (refBytes_bad A c l.length w hl h8).mono ?_
    rintro e w' ⟨rfl, rfl⟩
    exact gives2_bad rfl (Below.refl _ _)
theorem pack_back (b : List UInt8) : pack (of b) = (b, 0) := by
  unfold pack
  rw [of_len, if_pos (by omega), show 8 * b.length / 8 = b.length by omega, pack_of]
end Go.Proofs.Ytkiofgbfalihoaa

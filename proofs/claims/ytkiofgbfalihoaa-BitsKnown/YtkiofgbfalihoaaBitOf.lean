/- Of the program and Bits of the reference: each returns the plain mathematics' bits, in new memory. Condition: the slice reads as the bytes, of which there are at most 2^17. -/
import Derived.Test.YtkiofgbfalihoaaBitUn
namespace Go.Proofs.Ytkiofgbfalihoaa
open Go.RowKit
open Bit
set_option linter.unusedVariables false

/-- behind k bytes and t bits of the next one -/
def ORel (W : World) (b : List UInt8) (k t : Nat) (v : Value) (wr : World) : Prop :=
  ∃ (A : Option Addr) (c : Nat) (acc : List UInt8), v = .slice A acc.length c ∧ Own wr W.heap.size A c acc ∧ Below W.heap.size W wr ∧ acc = ofN b (8 * k + t)

theorem low_bit (x : UInt8) (t : Nat) (y : Int) (h : y = ((x.toNat / 2 ^ t : Nat) : Int)) : bits .and .u8 y 1 = ((bit x t).toNat : Int) := by
  have hx := x.toNat_lt
  have hle : x.toNat / 2 ^ t ≤ x.toNat := Nat.div_le_self _ _
  rw [h, show (1 : Int) = ((1 : Nat) : Int) from rfl, u8_and_nat _ 1 (by omega) (by omega), nat_mask1]
  unfold bit
  rw [UInt8.toNat_ofNat']
  have : x.toNat / 2 ^ t % 2 < 2 := Nat.mod_lt _ (by omega)
  rw [Nat.mod_eq_of_lt (show x.toNat / 2 ^ t % 2 < 2 ^ 8 by omega)]

set_option maxHeartbeats 1000000 in
theorem of_calls (A : Option Addr) (c : Nat) (l : List UInt8) (w : World) (hr : Rd w A l) (hl : l.length ≤ 131072) :
    Calls Try.prog 9 #[.slice A l.length c] w (GivesOwn (of l) w) := by
  go_enter Try.func9, Try.ntmps9
  go_wp2
  go_loopw [3, 8] (fun v i wr => ∃ k : Nat, k ≤ l.length ∧ i = .int .i64 k ∧ ORel w l k 0 v wr) (fun _ i _ => l.length - (intOf i).toNat)
  case atStart => exact ⟨0, Nat.zero_le _, rfl, none, 0, [], rfl, Own.nil _ _, Below.refl _ _, rfl⟩
  case round =>
    obtain ⟨k, hk, rfl, B, d, acc, rfl, own, bel, hacc⟩ := hrel
    by_cases hlt : k < l.length
    · obtain ⟨b, off, rfl, hb, hc⟩ := (hr.below bel).at_ hlt
      have hsn := Lib.hid (ofN_succ l k)
      have HA := Lib.hid hacc
      clear hacc
      unfold bv at hc
      generalize l.getD k 0 = x at hc hsn
      have hx := x.toNat_lt
      go_wp2
      go_loopw [3, 5, 12] (fun v y j wr => ∃ t : Nat, t ≤ 8 ∧ j = .int .i64 t ∧ y = .int .u8 ((x.toNat / 2 ^ t : Nat) : Int) ∧ ORel w l k t v wr) (fun _ _ j _ => 8 - (intOf j).toNat)
      case atStart => exact ⟨0, by omega, rfl, val_int (by simp), B, d, acc, rfl, own, bel, HA.out⟩
      case round =>
        obtain ⟨t, ht, rfl, rfl, B', d', acc', rfl, own', bel', hacc'⟩ := hrel
        by_cases ht8 : t < 8
        · have hs := hsn.out t ht8
          rw [← hacc'] at hs
          have HS := Lib.hid hs
          have hn : acc'.length ≤ 1048576 := by rw [hacc', ofN_len]; omega
          obtain ⟨A2, c2, w2, run, own2, bel2⟩ := app_new wr w.heap.size B' d' acc' [bit x t] own' bel'.size (by simp; omega)
          have bel3 := bel'.trans bel2
          have hlow := low_bit x t _ rfl
          have hhalf : ((x.toNat / 2 ^ t : Nat) : Int) / 2 = ((x.toNat / 2 ^ (t + 1) : Nat) : Int) := by
            rw [Nat.pow_succ, ← Nat.div_div_eq_div_mul]
            rfl
          have HH := Lib.hid hhalf
          have hy : x.toNat / 2 ^ t < 256 := Nat.lt_of_le_of_lt (Nat.div_le_self _ _) hx
          clear hs hacc' hhalf own'
          generalize x.toNat / 2 ^ t = y at hlow HH hy
          generalize bit x t = z at hlow run own2 HS
          generalize acc' ++ [z] = acc2 at run own2 HS
          go_wp2_with (at_builtin; refine Lib.wpList_append_run _ rfl _ _ _ _ rfl _ _ rfl rfl _ _ (run _) ?_)
          go_roundw
          case rel => exact ⟨t + 1, by omega, by go_num, val_int (by rw [← HH.out]), A2, c2, acc2, rfl, own2, bel3, HS.out.symm⟩
          case measure => simp [intOf]; omega
        · obtain rfl : t = 8 := by omega
          have HA' := Lib.hid hacc'
          clear hacc'
          go_wp2
          go_roundw
          case rel => exact ⟨k + 1, by omega, by go_num, B', d', acc', rfl, own', bel', HA'.out⟩
          case measure => simp [intOf]; omega
    · have HA : Hid (acc = of l) := Lib.hid (by rw [hacc]; unfold of; rw [show l.length = k by omega]; rfl)
      clear hacc
      go_wp2
      go_ret
      exact ⟨B, d, by rw [HA.out]; rfl, by rw [← HA.out]; exact own, bel⟩
set_option maxHeartbeats 1000000 in
theorem refBits_calls (A : Option Addr) (c : Nat) (l : List UInt8) (w : World) (hr : Rd w A l) (hl : l.length ≤ 131072) :
    Calls Try.prog 13 #[.slice A l.length c] w (GivesOwn (of l) w) := by
  go_enter Try.func13, Try.ntmps13
  go_wp2
  go_loopw [3, 4] (fun v i wr => ∃ k : Nat, k ≤ l.length ∧ i = .int .i64 k ∧ ORel w l k 0 v wr) (fun _ i _ => l.length - (intOf i).toNat)
  case atStart => exact ⟨0, Nat.zero_le _, rfl, none, 0, [], rfl, Own.nil _ _, Below.refl _ _, rfl⟩
  case round =>
    obtain ⟨k, hk, rfl, B, d, acc, rfl, own, bel, hacc⟩ := hrel
    by_cases hlt : k < l.length
    · have HA := Lib.hid hacc
      clear hacc
      go_wp2
      go_loopw [3, 5] (fun v j wr => ∃ t : Nat, t ≤ 8 ∧ j = .int .i64 t ∧ ORel w l k t v wr) (fun _ j _ => 8 - (intOf j).toNat)
      case atStart => exact ⟨0, by omega, rfl, B, d, acc, rfl, own, bel, HA.out⟩
      case round =>
        obtain ⟨t, ht, rfl, B', d', acc', rfl, own', bel', hacc'⟩ := hrel
        by_cases ht8 : t < 8
        · obtain ⟨b, off, rfl, hb, hc⟩ := (hr.below bel').at_ hlt
          unfold bv at hc
          have hs := ofN_succ l k t ht8
          generalize l.getD k 0 = x at hc hs
          have hx := x.toNat_lt
          rw [← hacc'] at hs
          have HS := Lib.hid hs
          have hn : acc'.length ≤ 1048576 := by rw [hacc', ofN_len]; omega
          obtain ⟨A2, c2, w2, run, own2, bel2⟩ := app_new wr w.heap.size B' d' acc' [bit x t] own' bel'.size (by simp; omega)
          have bel3 := bel'.trans bel2
          have hlow := low_bit x t ((x.toNat : Int) / 2 ^ t) (by rw [Int.natCast_ediv, Int.natCast_pow]; rfl)
          clear hs hacc' own'
          generalize bit x t = z at hlow run own2 HS
          generalize acc' ++ [z] = acc2 at run own2 HS
          go_wp2_with (at_builtin; refine Lib.wpList_append_run _ rfl _ _ _ _ rfl _ _ rfl rfl _ _ (run _) ?_)
          go_roundw
          case rel => exact ⟨t + 1, by omega, by go_num, A2, c2, acc2, rfl, own2, bel3, HS.out.symm⟩
          case measure => simp [intOf]; omega
        · obtain rfl : t = 8 := by omega
          have HA' := Lib.hid hacc'
          clear hacc'
          go_wp2
          go_roundw
          case rel => exact ⟨k + 1, by omega, by go_num, B', d', acc', rfl, own', bel', HA'.out⟩
          case measure => simp [intOf]; omega
    · have HA : Hid (acc = of l) := Lib.hid (by rw [hacc]; unfold of; rw [show l.length = k by omega]; rfl)
      clear hacc
      go_wp2
      go_ret
      exact ⟨B, d, by rw [HA.out]; rfl, by rw [← HA.out]; exact own, bel⟩
end Go.Proofs.Ytkiofgbfalihoaa

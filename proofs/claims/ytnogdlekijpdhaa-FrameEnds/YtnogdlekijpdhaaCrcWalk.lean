/- The checksum loops of the program and of the reference: each returns the plain mathematics' sum, and leaves the world as it was. Condition: the slice reads as the bytes. -/
import Derived.Test.YtnogdlekijpdhaaBytesRd
import Derived.Test.YtnogdlekijpdhaaFcsBits
namespace Go.Proofs.Ytnogdlekijpdhaa
open Go.RowKit
open Fcs
set_option linter.unusedVariables false

theorem crc16_calls (A : Option Addr) (c : Nat) (l : List UInt8) (w : World) (hr : Rd w A l) (hl : l.length ≤ maxLen) :
    Calls Try.prog 43 #[.slice A l.length c, .int .u16 33800] w fun e w' => e = .returned (b16 (crc p16 l)) ∧ w = w' := by
  unfold maxLen at hl
  go_enter Try.func43, Try.ntmps43
  go_wp2
  go_loop [5, 13] (fun r i => ∃ k : Nat, k ≤ l.length ∧ i = .int .i64 k ∧ r = .int .u16 ((reg p16 o16 (l.take k)).toNat : Int)) (fun _ i => l.length - (intOf i).toNat)
  case atStart => exact ⟨0, Nat.zero_le _, rfl, rfl⟩
  case round =>
    obtain ⟨k, hk, rfl, rfl⟩ := hrel
    by_cases hlt : k < l.length
    · obtain ⟨b, off, rfl, hb, hc⟩ := hr.at_ hlt
      unfold bv at hc
      go_wp2
      go_loop [5, 21] (fun r i => ∃ m : Nat, m ≤ 8 ∧ i = .int .i64 m ∧ r = .int .u16 ((stpN p16 m (reg p16 o16 (l.take k) ^^^ l[k].toBitVec.setWidth 16)).toNat : Int)) (fun _ i => 8 - (intOf i).toNat)
      case atStart => exact ⟨0, Nat.zero_le _, rfl, val_int (x16_in _ _)⟩
      case round =>
        obtain ⟨m, hm, rfl, rfl⟩ := hrel
        by_cases hm8 : m < 8
        · have hs : stpN p16 (m + 1) (reg p16 o16 (l.take k) ^^^ l[k].toBitVec.setWidth 16) = stp p16 (stpN p16 m (reg p16 o16 (l.take k) ^^^ l[k].toBitVec.setWidth 16)) := rfl
          generalize hx : stpN p16 m (reg p16 o16 (l.take k) ^^^ l[k].toBitVec.setWidth 16) = x at hs
          have HX := Lib.hid hs
          clear hx hs
          have ho := x16_odd x
          by_cases hx0 : x.getLsbD 0 = true
          · rw [hx0] at ho
            go_wp2
            go_round
            case rel => exact ⟨m + 1, by omega, by go_num, val_int (by rw [HX.out]; exact x16_step1 x hx0)⟩
            case measure => simp [intOf]; omega
          · rw [eq_false_of_ne_true hx0] at ho
            go_wp2
            go_round
            case rel => exact ⟨m + 1, by omega, by go_num, val_int (by rw [HX.out]; exact x16_step0 x (eq_false_of_ne_true hx0))⟩
            case measure => simp [intOf]; omega
        · obtain rfl : m = 8 := by omega
          go_wp2
          go_round
          case rel => exact ⟨k + 1, by omega, by go_num, val_int (by rw [reg_snoc _ _ _ _ hlt])⟩
          case measure => simp [intOf]; omega
    · go_wp2
      go_ret
      exact ⟨ret_int (by rw [List.take_of_length_le (by omega)]; exact x16_not _), rfl⟩

theorem crc32_calls (A : Option Addr) (c : Nat) (l : List UInt8) (w : World) (hr : Rd w A l) (hl : l.length ≤ maxLen) :
    Calls Try.prog 42 #[.slice A l.length c, .int .u32 3988292384] w fun e w' => e = .returned (b32 (crc p32 l)) ∧ w = w' := by
  unfold maxLen at hl
  go_enter Try.func42, Try.ntmps42
  go_wp2
  go_loop [5, 13] (fun r i => ∃ k : Nat, k ≤ l.length ∧ i = .int .i64 k ∧ r = .int .u32 ((reg p32 o32 (l.take k)).toNat : Int)) (fun _ i => l.length - (intOf i).toNat)
  case atStart => exact ⟨0, Nat.zero_le _, rfl, rfl⟩
  case round =>
    obtain ⟨k, hk, rfl, rfl⟩ := hrel
    by_cases hlt : k < l.length
    · obtain ⟨b, off, rfl, hb, hc⟩ := hr.at_ hlt
      unfold bv at hc
      go_wp2
      go_loop [5, 21] (fun r i => ∃ m : Nat, m ≤ 8 ∧ i = .int .i64 m ∧ r = .int .u32 ((stpN p32 m (reg p32 o32 (l.take k) ^^^ l[k].toBitVec.setWidth 32)).toNat : Int)) (fun _ i => 8 - (intOf i).toNat)
      case atStart => exact ⟨0, Nat.zero_le _, rfl, val_int (x32_in _ _)⟩
      case round =>
        obtain ⟨m, hm, rfl, rfl⟩ := hrel
        by_cases hm8 : m < 8
        · have hs : stpN p32 (m + 1) (reg p32 o32 (l.take k) ^^^ l[k].toBitVec.setWidth 32) = stp p32 (stpN p32 m (reg p32 o32 (l.take k) ^^^ l[k].toBitVec.setWidth 32)) := rfl
          generalize hx : stpN p32 m (reg p32 o32 (l.take k) ^^^ l[k].toBitVec.setWidth 32) = x at hs
          have HX := Lib.hid hs
          clear hx hs
          have ho := x32_odd x
          by_cases hx0 : x.getLsbD 0 = true
          · rw [hx0] at ho
            go_wp2
            go_round
            case rel => exact ⟨m + 1, by omega, by go_num, val_int (by rw [HX.out]; exact x32_step1 x hx0)⟩
            case measure => simp [intOf]; omega
          · rw [eq_false_of_ne_true hx0] at ho
            go_wp2
            go_round
            case rel => exact ⟨m + 1, by omega, by go_num, val_int (by rw [HX.out]; exact x32_step0 x (eq_false_of_ne_true hx0))⟩
            case measure => simp [intOf]; omega
        · obtain rfl : m = 8 := by omega
          go_wp2
          go_round
          case rel => exact ⟨k + 1, by omega, by go_num, val_int (by rw [reg_snoc _ _ _ _ hlt])⟩
          case measure => simp [intOf]; omega
    · go_wp2
      go_ret
      exact ⟨ret_int (by rw [List.take_of_length_le (by omega)]; exact x32_not _), rfl⟩

theorem short_calls (A : Option Addr) (c : Nat) (l : List UInt8) (w : World) (hr : Rd w A l) (hl : l.length ≤ maxLen) :
    Calls Try.prog 41 #[.slice A l.length c] w fun e w' => e = .returned (b16 (crc p16 l)) ∧ w = w' := by
  go_enter Try.func41, Try.ntmps41
  go_wp2_with fail
  refine (crc16_calls A c l w hr hl).mono ?_
  rintro e w' ⟨rfl, rfl⟩
  go_wp2
  go_ret
  exact ⟨rfl, rfl⟩
theorem long_calls (A : Option Addr) (c : Nat) (l : List UInt8) (w : World) (hr : Rd w A l) (hl : l.length ≤ maxLen) :
    Calls Try.prog 40 #[.slice A l.length c] w fun e w' => e = .returned (b32 (crc p32 l)) ∧ w = w' := by
  go_enter Try.func40, Try.ntmps40
  go_wp2_with fail
  refine (crc32_calls A c l w hr hl).mono ?_
  rintro e w' ⟨rfl, rfl⟩
  go_wp2
  go_ret
  exact ⟨rfl, rfl⟩
end Go.Proofs.Ytnogdlekijpdhaa

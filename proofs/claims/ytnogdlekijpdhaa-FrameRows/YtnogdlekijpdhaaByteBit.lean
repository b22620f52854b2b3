/- A turned bit of a byte, and the low bits of a number, as the walk spells them. No condition. -/
import Derived.Test.YtnogdlekijpdhaaBytesNew
import Derived.Laws.Bits128
namespace Go.Proofs.Ytnogdlekijpdhaa
open Go.RowKit
set_option linter.unusedVariables false

theorem i64_and7 (n : Int) : bits .and .i64 n 7 = n % 8 := by
  have h7 : (BitVec.ofInt 64 7).toNat = 2 ^ 3 - 1 := by decide
  have key : (BitVec.ofInt 64 n &&& BitVec.ofInt 64 7).toNat = (n % ((2 ^ 64 : Nat) : Int)).toNat % 2 ^ 3 := by
    rw [BitVec.toNat_and, BitVec.toNat_ofInt, h7, Nat.and_two_pow_sub_one_eq_mod]
  show IntKind.i64.wrap ((BitVec.ofInt 64 n &&& BitVec.ofInt 64 7).toNat : Nat) = n % 8
  rw [key, IntKind.wrap_i64]
  omega
theorem i64_and3 (n : Int) : bits .and .i64 n 3 = n % 4 := by
  have h3 : (BitVec.ofInt 64 3).toNat = 2 ^ 2 - 1 := by decide
  have key : (BitVec.ofInt 64 n &&& BitVec.ofInt 64 3).toNat = (n % ((2 ^ 64 : Nat) : Int)).toNat % 2 ^ 2 := by
    rw [BitVec.toNat_and, BitVec.toNat_ofInt, h3, Nat.and_two_pow_sub_one_eq_mod]
  show IntKind.i64.wrap ((BitVec.ofInt 64 n &&& BitVec.ofInt 64 3).toNat : Nat) = n % 4
  rw [key, IntKind.wrap_i64]
  omega
theorem bit_flip (x : UInt8) (s : Nat) (hs : s < 8) : bits .xor .u8 (x.toNat : Int) ((2 : Int) ^ s % 256) = ((x ^^^ UInt8.ofBitVec (1#8 <<< s)).toNat : Int) := by
  have hx := x.toNat_lt
  have h2 : 2 ^ s < 256 := Nat.pow_lt_pow_right (by decide) (show s < 8 from hs)
  have e0 : (2 : Int) ^ s % 256 = ((2 ^ s : Nat) : Int) := by
    have e : (2 : Int) ^ s = ((2 ^ s : Nat) : Int) := by simp
    rw [e]
    generalize 2 ^ s = y at h2
    rw [Int.emod_eq_of_lt (by omega) (by omega)]
  rw [e0, u8_xor_nat _ _ hx h2]
  have e : (UInt8.ofBitVec (1#8 <<< s)).toNat = 2 ^ s := by
    show (1#8 <<< s).toNat = 2 ^ s
    rw [BitVec.toNat_shiftLeft]
    simp only [BitVec.toNat_ofNat, Nat.one_mod, Nat.one_shiftLeft]
    exact Nat.mod_eq_of_lt h2
  rw [UInt8.toNat_xor, e]
end Go.Proofs.Ytnogdlekijpdhaa

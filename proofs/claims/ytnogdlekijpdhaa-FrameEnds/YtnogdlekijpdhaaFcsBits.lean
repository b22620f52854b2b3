/- The machine's words for bits, at 16 and 32 bits, as the plain mathematics has them. No condition. -/
import Derived.Test.YtnogdlekijpdhaaFcsPlain
import Derived.Test.YtnogdlekijpdhaaBytesRd
import Derived.WalkKit
import Derived.Laws.BitsAllLaws
namespace Go.Proofs.Ytnogdlekijpdhaa
open Go.RowKit
open Fcs
set_option linter.unusedVariables false

def p16 : BitVec 16 := 0x8408#16
def o16 : BitVec 16 := BitVec.allOnes 16
def p32 : BitVec 32 := 0xEDB88320#32
def o32 : BitVec 32 := BitVec.allOnes 32
/-- the value of a short sum, of a long one -/
def b16 (x : BitVec 16) : Value := .int .u16 (x.toNat : Int)
def b32 (x : BitVec 32) : Value := .int .u32 (x.toNat : Int)

theorem odd_iff {n : Nat} (x : BitVec n) : x.getLsbD 0 = decide (x.toNat % 2 = 1) := by
  simp [BitVec.getLsbD, Nat.testBit_zero]
theorem shift_nat {n : Nat} (x : BitVec n) : (x >>> 1).toNat = x.toNat / 2 := by simp [Nat.shiftRight_eq_div_pow]

theorem x16_in (x : BitVec 16) (c : UInt8) : bits .xor .u16 (x.toNat : Int) (IntKind.u16.wrap (c.toNat : Int)) = ((x ^^^ c.toBitVec.setWidth 16).toNat : Int) := by
  have h1 := x.isLt
  have h2 : c.toNat < 256 := c.toNat_lt
  have h3 : (c.toNat : Int) % 65536 = (c.toNat : Int) := by omega
  have h4 : c.toNat % 65536 = c.toNat := by omega
  rw [IntKind.wrap_u16, h3, u16_xor_nat _ _ (by omega) (by omega)]
  simp [BitVec.toNat_xor, h4]
theorem x16_odd (x : BitVec 16) : (bits .and .u16 (x.toNat : Int) 1 == 1) = x.getLsbD 0 := by
  have h1 := x.isLt
  have := u16_and_nat x.toNat 1 (by omega) (by omega)
  rw [odd_iff, show (1 : Int) = ((1 : Nat) : Int) from rfl, this, nat_mask1, Bool.eq_iff_iff]
  simp
  omega
theorem x16_step1 (x : BitVec 16) (h : x.getLsbD 0 = true) : bits .xor .u16 ((x.toNat : Int) / 2) 33800 = ((stp p16 x).toNat : Int) := by
  have h1 := x.isLt
  have := u16_xor_nat (x.toNat / 2) 33800 (by omega) (by omega)
  rw [Int.natCast_ediv] at this
  rw [stp, h, if_pos rfl, BitVec.toNat_xor, shift_nat]
  exact this
theorem x16_step0 (x : BitVec 16) (h : x.getLsbD 0 = false) : (x.toNat : Int) / 2 = ((stp p16 x).toNat : Int) := by
  rw [stp, h, if_neg (by simp), BitVec.xor_zero, shift_nat, Int.natCast_ediv]
  rfl
theorem x16_not (x : BitVec 16) : bits .xor .u16 IntKind.u16.max (x.toNat : Int) = ((~~~x).toNat : Int) := by
  have h1 := x.isLt
  have := u16_xor_nat 65535 x.toNat (by omega) (by omega)
  rw [show IntKind.u16.max = ((65535 : Nat) : Int) from rfl, this, ← BitVec.xor_allOnes, BitVec.toNat_xor, Nat.xor_comm]
  rfl

theorem x32_in (x : BitVec 32) (c : UInt8) : bits .xor .u32 (x.toNat : Int) (IntKind.u32.wrap (c.toNat : Int)) = ((x ^^^ c.toBitVec.setWidth 32).toNat : Int) := by
  have h1 := x.isLt
  have h2 : c.toNat < 256 := c.toNat_lt
  have h3 : (c.toNat : Int) % 4294967296 = (c.toNat : Int) := by omega
  have h4 : c.toNat % 4294967296 = c.toNat := by omega
  rw [IntKind.wrap_u32', h3, u32_xor_nat _ _ (by omega) (by omega)]
  simp [BitVec.toNat_xor, h4]
theorem x32_odd (x : BitVec 32) : (bits .and .u32 (x.toNat : Int) 1 == 1) = x.getLsbD 0 := by
  have h1 := x.isLt
  have := u32_and_nat x.toNat 1 (by omega) (by omega)
  rw [odd_iff, show (1 : Int) = ((1 : Nat) : Int) from rfl, this, nat_mask1, Bool.eq_iff_iff]
  simp
  omega
theorem x32_step1 (x : BitVec 32) (h : x.getLsbD 0 = true) : bits .xor .u32 ((x.toNat : Int) / 2) 3988292384 = ((stp p32 x).toNat : Int) := by
  have h1 := x.isLt
  have := u32_xor_nat (x.toNat / 2) 3988292384 (by omega) (by omega)
  rw [Int.natCast_ediv] at this
  rw [stp, h, if_pos rfl, BitVec.toNat_xor, shift_nat]
  exact this
theorem x32_step0 (x : BitVec 32) (h : x.getLsbD 0 = false) : (x.toNat : Int) / 2 = ((stp p32 x).toNat : Int) := by
  rw [stp, h, if_neg (by simp), BitVec.xor_zero, shift_nat, Int.natCast_ediv]
  rfl
theorem x32_not (x : BitVec 32) : bits .xor .u32 IntKind.u32.max (x.toNat : Int) = ((~~~x).toNat : Int) := by
  have h1 := x.isLt
  have := u32_xor_nat 4294967295 x.toNat (by omega) (by omega)
  rw [show IntKind.u32.max = ((4294967295 : Nat) : Int) from rfl, this, ← BitVec.xor_allOnes, BitVec.toNat_xor, Nat.xor_comm]
  rfl

theorem reg_snoc {n : Nat} (P x : BitVec n) (l : List UInt8) (k : Nat) (hk : k < l.length) : reg P x (l.take (k + 1)) = stpN P 8 (reg P x (l.take k) ^^^ l[k].toBitVec.setWidth n) := by
  rw [List.take_succ_eq_append_getElem hk, reg_append]
  rfl
end Go.Proofs.Ytnogdlekijpdhaa

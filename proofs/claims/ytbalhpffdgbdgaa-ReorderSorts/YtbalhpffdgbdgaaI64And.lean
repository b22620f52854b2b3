/- The lowest three bits of an int. No condition. -/
import Derived.Test.YtbalhpffdgbdgaaBytesRd
namespace Go.Proofs.Ytbalhpffdgbdgaa
open Go.RowKit
set_option linter.unusedVariables false

theorem i64_and_key (x y : Int) : bits .and .i64 x y = IntKind.i64.wrap ((((x % ((2 ^ 64 : Nat) : Int)).toNat &&& (y % ((2 ^ 64 : Nat) : Int)).toNat : Nat)) : Int) := by
  show IntKind.i64.wrap ((BitVec.ofInt 64 x &&& BitVec.ofInt 64 y).toNat : Nat) = _
  rw [BitVec.toNat_and, BitVec.toNat_ofInt, BitVec.toNat_ofInt]
theorem i64_and7 (x : Int) : bits .and .i64 x 7 = x % 8 := by
  rw [i64_and_key, show ((7 : Int) % ((2 ^ 64 : Nat) : Int)).toNat = 2 ^ 3 - 1 by decide, Nat.and_two_pow_sub_one_eq_mod, IntKind.wrap_i64]
  omega
theorem i64_and15 (x : Int) : bits .and .i64 x 15 = x % 16 := by
  rw [i64_and_key, show ((15 : Int) % ((2 ^ 64 : Nat) : Int)).toNat = 2 ^ 4 - 1 by decide, Nat.and_two_pow_sub_one_eq_mod, IntKind.wrap_i64]
  omega
end Go.Proofs.Ytbalhpffdgbdgaa

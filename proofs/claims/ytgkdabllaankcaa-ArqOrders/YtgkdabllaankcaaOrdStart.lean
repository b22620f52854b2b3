/- Two ends of a new session that may try a hundred times: nothing has been said. No condition. -/
import Derived.Test.YtgkdabllaankcaaTwoLaw
import Derived.Test.YtgkdabllaankcaaPairPrefix
namespace Go.Proofs.Ytgkdabllaankcaa
open Go.RowKit
set_option linter.unusedVariables false

theorem i64_and1 (x : Int) : bits .and .i64 x 1 = x % 2 := by
  rw [and_key, show ((1 : Int) % ((2 ^ 64 : Nat) : Int)).toNat = 2 ^ 1 - 1 by decide, Nat.and_two_pow_sub_one_eq_mod, IntKind.wrap_i64]
  omega
theorem i64_and7 (x : Int) : bits .and .i64 x 7 = x % 8 := by
  rw [and_key, show ((7 : Int) % ((2 ^ 64 : Nat) : Int)).toNat = 2 ^ 3 - 1 by decide, Nat.and_two_pow_sub_one_eq_mod, IntKind.wrap_i64]
  omega
theorem i64_and15 (x : Int) : bits .and .i64 x 15 = x % 16 := by
  rw [and_key, show ((15 : Int) % ((2 ^ 64 : Nat) : Int)).toNat = 2 ^ 4 - 1 by decide, Nat.and_two_pow_sub_one_eq_mod, IntKind.wrap_i64]
  omega
def ordC (m W : Int) : Cf := ⟨0, m, W, 10, 100, 0, 0, 0, 20, 50, 0, 0, 0, 0, false, false⟩
def nums0 : Bool → Nums := fun _ => ⟨0, 0, 0, 0, fun _ => False, []⟩
theorem two_start {M W : Nat} (hM : M = 128 ∨ M = 32768) (h1 : 1 ≤ W) (h2 : W ≤ 16) : Two M W 0 (upP (ordC (M : Int) (W : Int))) nums0 := by
  have ok := upS_ok (ordC (M : Int) (W : Int))
  have hm : (upS (ordC (M : Int) (W : Int))).m = M := by rcases hM with rfl | rfl <;> rfl
  have hl : (upS (ordC (M : Int) (W : Int))).lg.W = W := by
    rcases hM with rfl | rfl
    · show (min (max (W : Int) 1) (min (max (128 : Int) 8) 32768 / 8)).toNat = W
      omega
    · show (min (max (W : Int) 1) (min (max (32768 : Int) 8) 32768 / 8)).toNat = W
      omega
  have ho : (upS (ordC (M : Int) (W : Int))).od.W = W := by
    rcases hM with rfl | rfl
    · show (min (max (W : Int) 1) (min (max (128 : Int) 8) 32768 / 8)).toNat = W
      omega
    · show (min (max (W : Int) 1) (min (max (32768 : Int) 8) 32768 / 8)).toNat = W
      omega
  refine ⟨fun i => ⟨⟨ok, rfl, rfl, ?_, rfl, Nat.le_refl _, rfl, Nat.le_refl _, rfl, rfl, rfl⟩, ⟨ok.od, ok.odm.trans hm, ho, ?_, ?_, fun x h => h.elim, Nat.le_refl _, Nat.zero_le _⟩, fun h => h, Nat.le_refl _, Nat.le_refl _, trivial, Nat.le_refl _⟩, fun i => ⟨hm, hl, ?_, rfl, rfl, rfl, Nat.zero_le _⟩, fun i => ⟨rfl, rfl, rfl⟩, fun i => rfl, fun i => rfl, rfl, fun i x hx => (List.not_mem_nil hx).elim, fun i => ⟨Nat.le_refl _, Nat.le_refl _, Nat.le_refl _⟩⟩
  · show 0 = 0 % _
    rw [Nat.zero_mod]
  · show 0 = 0 % M
    rw [Nat.zero_mod]
  · intro z y
    constructor
    · intro h; cases h
    · rintro ⟨x, h, -⟩; exact h.elim
  · show 20 ≤ (min (max (20 : Int) 0) 1000).toNat
    decide
section
variable {w v : World} {H : Nat → Prop} {P : Nat} {b : Bool → Nat} {p : Pr}
theorem carry_i (h : PrOne H w v P b p) (i lost : Bool) (hr : ∀ x l, p.way i = x :: l → (p.a (!i)).Room ∧ x.length ≤ 90000 ∧ (if lost = true then p.setWay i l else (p.setWay i l).setA (!i) ((p.a (!i)).input x)).Room) :
    Calls Try.prog 15 #[.pointer (some ⟨P, 0, none⟩), .int .i64 (i.toNat : Int), .bool lost] v fun e v' => e = .returned (.tuple #[]) ∧ PrOne H w v' P b (p.carry i lost) ∧ Kept H v v' := by
  cases i
  · exact carry_zero h lost hr
  · exact carry_one h lost hr
end
theorem two_state (c : Cf) (i : Bool) : ((upP c).a i).st = 2 := rfl
end Go.Proofs.Ytgkdabllaankcaa

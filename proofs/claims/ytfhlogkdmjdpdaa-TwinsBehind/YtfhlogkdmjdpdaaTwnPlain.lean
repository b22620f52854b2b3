/- A table of numbers that arrived: what it is, plainly. No condition. -/
import Derived.Test.YtfhlogkdmjdpdaaMemOnly
namespace Go.Proofs.Ytfhlogkdmjdpdaa
open Go.RowKit
set_option linter.unusedVariables false

/-- a table, plainly: how many numbers count, whether there is a highest one, which one, and which distances behind it have arrived -/
structure Tb where
  S : Nat
  kn : Bool
  hi : Nat
  arr : Nat → Bool
structure Tb.ok (m : Tb) : Prop where
  size : 1 ≤ m.S ∧ m.S ≤ 4096
  hi : m.hi < 4294967296
/-- how far n is ahead of the highest number, behind it -/
def Tb.ahead (m : Tb) (n : Nat) : Nat := (n + 4294967296 - m.hi) % 4294967296
def Tb.behind (m : Tb) (n : Nat) : Nat := (m.hi + 4294967296 - n) % 4294967296
def Tb.first (m : Tb) (n : Nat) : Tb := ⟨m.S, true, n, fun d => d == 0⟩
def Tb.up (m : Tb) (n : Nat) : Tb := ⟨m.S, true, n, fun d => if d = 0 then true else if d < m.ahead n then false else m.arr (d - m.ahead n)⟩
def Tb.mark (m : Tb) (b : Nat) : Tb := ⟨m.S, true, m.hi, fun d => if d = b then true else m.arr d⟩
/-- is n new? -/
def Tb.isNew (m : Tb) (n : Nat) : Bool :=
  if m.kn = false then true else if m.ahead n = 0 then false else if m.ahead n < 2147483648 then true else if m.S ≤ m.behind n then false else !m.arr (m.behind n)
/-- behind n -/
def Tb.got (m : Tb) (n : Nat) : Tb :=
  if m.kn = false then m.first n else if m.ahead n = 0 then m else if m.ahead n < 2147483648 then m.up n else if m.S ≤ m.behind n then m else m.mark (m.behind n)
def Tb.clear (m : Tb) : Tb := { m with kn := false }
/-- how many numbers count -/
def tsz (n : Int) : Nat := (min (max n 1) 4096).toNat
theorem tsz_le (n : Int) : 1 ≤ tsz n ∧ tsz n ≤ 4096 := by unfold tsz; omega
theorem tsz_int (n : Int) : min (max n 1) 4096 = (tsz n : Int) := by unfold tsz; omega
/-- a new one -/
def tnew (n : Int) : Tb := ⟨tsz n, false, 0, fun _ => false⟩
theorem tnew_ok (n : Int) : (tnew n).ok := ⟨tsz_le n, by show 0 < 4294967296; omega⟩
theorem Tb.clear_ok {m : Tb} (h : m.ok) : m.clear.ok := ⟨h.size, h.hi⟩
theorem Tb.got_ok {m : Tb} (h : m.ok) {n : Nat} (hn : n < 4294967296) : (m.got n).ok := by
  unfold Tb.got
  split
  · exact ⟨h.size, hn⟩
  · split
    · exact h
    · split
      · exact ⟨h.size, hn⟩
      · split
        · exact h
        · exact ⟨h.size, h.hi⟩
theorem Tb.got_kn (m : Tb) (n : Nat) : (m.got n).kn = true := by
  unfold Tb.got
  cases hk : m.kn
  · rfl
  · simp only [Bool.true_eq_false, if_false]
    split
    · exact hk
    · split
      · rfl
      · split
        · exact hk
        · rfl
theorem Tb.got_S (m : Tb) (n : Nat) : (m.got n).S = m.S := by
  unfold Tb.got
  split
  · rfl
  · split
    · rfl
    · split
      · rfl
      · split <;> rfl
/-- the two distances add up -/
theorem Tb.around {m : Tb} (h : m.ok) {n : Nat} (hn : n < 4294967296) (h0 : m.ahead n ≠ 0) : m.ahead n + m.behind n = 4294967296 := by
  have := h.hi
  unfold Tb.ahead Tb.behind at *
  omega
theorem Tb.ahead_lt (m : Tb) (n : Nat) : m.ahead n < 4294967296 := by unfold Tb.ahead; omega
theorem Tb.behind_lt (m : Tb) (n : Nat) : m.behind n < 4294967296 := by unfold Tb.behind; omega
end Go.Proofs.Ytfhlogkdmjdpdaa

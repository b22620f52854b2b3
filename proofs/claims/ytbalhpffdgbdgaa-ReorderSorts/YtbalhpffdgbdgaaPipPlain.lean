/- One direction of a line as plain data: octets in their order, room, cut, stalled; put, take and the faults. No condition. -/
namespace Go.Proofs.Ytbalhpffdgbdgaa
set_option linter.unusedVariables false

/-- a pipe: how many octets it holds at most, those that it holds, whether it is cut, whether it is stalled -/
structure Pip where
  R : Nat
  l : List UInt8
  cut : Bool
  st : Bool

/-- what n counts as among m octets -/
def lim (n : Int) (m : Nat) : Nat := (min (max n 0) (m : Int)).toNat
theorem lim_le (n : Int) (m : Nat) : lim n m ≤ m := by unfold lim; omega
theorem lim_int (n : Int) (m : Nat) : min (max n 0) (m : Int) = (lim n m : Int) := by unfold lim; omega
theorem lim_all {n : Int} {m : Nat} (h : (m : Int) ≤ n) : lim n m = m := by unfold lim; omega
theorem lim_nat {n m : Nat} (h : n ≤ m) : lim (n : Int) m = n := by unfold lim; omega

namespace Pip
/-- as many as fit -/
def fit (s : Pip) (x : List UInt8) : Nat := min x.length (s.R - s.l.length)
def putN (s : Pip) (x : List UInt8) : Nat := bif s.cut then x.length else s.fit x
def put (s : Pip) (x : List UInt8) : Pip := bif s.cut then s else ⟨s.R, s.l ++ x.take (s.fit x), s.cut, s.st⟩
def takeL (s : Pip) (n : Int) : List UInt8 := bif s.st then [] else s.l.take (lim n s.l.length)
def take (s : Pip) (n : Int) : Pip := bif s.st then s else ⟨s.R, s.l.drop (lim n s.l.length), s.cut, s.st⟩
def erase (s : Pip) (n : Int) : Pip := ⟨s.R, s.l.drop (lim n s.l.length), s.cut, s.st⟩
def canWrite (s : Pip) (n : Int) : Bool := decide (0 ≤ n ∧ n < s.l.length)
def write (s : Pip) (n : Int) (c : UInt8) : Pip := bif s.canWrite n then ⟨s.R, s.l.set n.toNat c, s.cut, s.st⟩ else s
def canInsert (s : Pip) (n : Int) : Bool := decide (0 ≤ n ∧ n ≤ s.l.length ∧ s.l.length < s.R)
def insert (s : Pip) (n : Int) (c : UInt8) : Pip := bif s.canInsert n then ⟨s.R, s.l.take n.toNat ++ c :: s.l.drop n.toNat, s.cut, s.st⟩ else s
/-- what a fault answers -/
def faultB (s : Pip) (kind n : Int) : Bool :=
  if kind = 0 ∨ kind = 1 ∨ kind = 2 ∨ kind = 3 then true else if kind = 4 then s.canWrite n else if kind = 5 then s.canInsert n else false
/-- what a fault leaves -/
def fault (s : Pip) (kind n : Int) (c : UInt8) : Pip :=
  if kind = 0 then ⟨s.R, s.l, false, false⟩ else if kind = 1 then ⟨s.R, s.l, true, s.st⟩ else if kind = 2 then ⟨s.R, s.l, s.cut, true⟩ else if kind = 3 then s.erase n else if kind = 4 then s.write n c else if kind = 5 then s.insert n c else s
/-- it holds no more than it may -/
def Ok (s : Pip) : Prop := s.l.length ≤ s.R ∧ s.R ≤ 1048576
theorem Ok.put {s : Pip} (h : s.Ok) (x : List UInt8) : (s.put x).Ok := by
  unfold Pip.put Ok fit at *
  cases s.cut <;> simp <;> omega
theorem Ok.take {s : Pip} (h : s.Ok) (n : Int) : (s.take n).Ok := by
  unfold Pip.take Ok at *
  cases s.st <;> simp <;> omega
theorem Ok.erase {s : Pip} (h : s.Ok) (n : Int) : (s.erase n).Ok := by
  unfold Pip.erase Ok at *
  simp; omega
theorem Ok.write {s : Pip} (h : s.Ok) (n : Int) (c : UInt8) : (s.write n c).Ok := by
  unfold Pip.write Ok at *
  cases s.canWrite n <;> simp <;> omega
theorem Ok.insert {s : Pip} (h : s.Ok) (n : Int) (c : UInt8) : (s.insert n c).Ok := by
  unfold Pip.insert
  cases e : s.canInsert n
  · exact h
  · simp [canInsert] at e
    unfold Ok at *
    simp
    omega
theorem Ok.fault {s : Pip} (h : s.Ok) (kind n : Int) (c : UInt8) : (s.fault kind n c).Ok := by
  unfold Pip.fault
  split
  · exact h
  split
  · exact h
  split
  · exact h
  split
  · exact h.erase n
  split
  · exact h.write n c
  split
  · exact h.insert n c
  · exact h
theorem canWrite_nat (R : Nat) (l : List UInt8) (cu sd : Bool) (j : Nat) : (⟨R, l, cu, sd⟩ : Pip).canWrite (j : Int) = decide (j < l.length) := by
  unfold canWrite
  exact decide_eq_decide.mpr ⟨fun h => by have := h.2; exact Int.ofNat_lt.mp this, fun h => ⟨Int.natCast_nonneg j, Int.ofNat_lt.mpr h⟩⟩
theorem write_no {R : Nat} {l : List UInt8} {cu sd : Bool} {j : Nat} (h : ¬ j < l.length) (y : UInt8) : (⟨R, l, cu, sd⟩ : Pip).write (j : Int) y = ⟨R, l, cu, sd⟩ := by
  unfold write
  rw [canWrite_nat, decide_eq_false h]
  rfl
theorem write_yes {R : Nat} {l : List UInt8} {cu sd : Bool} {j : Nat} (h : j < l.length) (y : UInt8) : (⟨R, l, cu, sd⟩ : Pip).write (j : Int) y = ⟨R, l.set j y, cu, sd⟩ := by
  unfold write
  rw [canWrite_nat, decide_eq_true h]
  rfl
theorem canInsert_nat {R : Nat} {l : List UInt8} (hR : l.length < R) (cu sd : Bool) (j : Nat) : (⟨R, l, cu, sd⟩ : Pip).canInsert (j : Int) = decide (j ≤ l.length) := by
  unfold canInsert
  exact decide_eq_decide.mpr ⟨fun h => by have := h.2.1; exact Int.ofNat_le.mp this, fun h => ⟨Int.natCast_nonneg j, Int.ofNat_le.mpr h, hR⟩⟩
theorem insert_no {R : Nat} {l : List UInt8} (hR : l.length < R) {cu sd : Bool} {j : Nat} (h : ¬ j ≤ l.length) (y : UInt8) : (⟨R, l, cu, sd⟩ : Pip).insert (j : Int) y = ⟨R, l, cu, sd⟩ := by
  unfold insert
  rw [canInsert_nat hR, decide_eq_false h]
  rfl
theorem insert_yes {R : Nat} {l : List UInt8} (hR : l.length < R) {cu sd : Bool} {j : Nat} (h : j ≤ l.length) (y : UInt8) : (⟨R, l, cu, sd⟩ : Pip).insert (j : Int) y = ⟨R, l.take j ++ y :: l.drop j, cu, sd⟩ := by
  unfold insert
  rw [canInsert_nat hR, decide_eq_true h]
  rfl
end Pip
/-- a new pipe -/
def newPip (room : Int) : Pip := ⟨(min (max room 0) 1048576).toNat, [], false, false⟩
theorem newPip_ok (room : Int) : (newPip room).Ok := by unfold newPip Pip.Ok; simp; omega
end Go.Proofs.Ytbalhpffdgbdgaa

/- One monitor of the program behind what was there; what its calls make of it. Condition: a run of good events is below what a tally can hold. -/
import Derived.Test.YtnjmnklkbldmgaaMonAlive
namespace Go.Proofs.Ytnjmnklkbldmgaa
open Go.RowKit
set_option linter.unusedVariables false

theorem Mo.judge_run (m : Mo) : m.judge.run = m.run ∧ m.judge.good = m.good ∧ m.judge.bad = m.bad ∧ m.judge.silent = m.silent ∧ m.judge.quiet = m.quiet := by
  unfold Mo.judge
  split
  · exact ⟨rfl, rfl, rfl, rfl, rfl⟩
  · split
    · exact ⟨rfl, rfl, rfl, rfl, rfl⟩
    · split <;> exact ⟨rfl, rfl, rfl, rfl, rfl⟩
theorem Mo.note_run (m : Mo) (ok : Bool) : (m.note ok).run = (if ok then m.run + 1 else 0) ∧ (m.note ok).good = m.good ∧ (m.note ok).bad = m.bad ∧ (m.note ok).silent = m.silent ∧ (m.note ok).quiet = 0 := Mo.judge_run (m.hear ok)
/-- The block b, behind what was in w, holds the monitor m. -/
structure One (w v : World) (b : Nat) (m : Mo) : Prop where
  mon : PM v b m
  bel : Below w.heap.size w v
  base : w.heap.size ≤ b
section
variable {w v : World} {b : Nat} {m : Mo}
theorem One.note (h : One w v b m) (ok : Bool) (hr : ok = true → m.run < 4294967295) : Calls Try.prog 11 #[.pointer (some ⟨b, 0, none⟩), .bool ok] v fun e v' => e = .returned (.int .i64 (m.note ok).st) ∧ One w v' b (m.note ok) := by
  refine (mnote_calls h.mon ok hr).mono ?_
  rintro e v' ⟨rfl, h1, on⟩
  exact ⟨rfl, h1, h.bel.trans (on.below (fun k hk => by have := h.base; omega) h.bel.size), h.base⟩
theorem One.pass (h : One w v b m) (n : Int) : Calls Try.prog 12 #[.pointer (some ⟨b, 0, none⟩), .int .i64 n] v fun e v' => e = .returned (.int .i64 (m.pass n).st) ∧ One w v' b (m.pass n) := by
  refine (mpass_calls h.mon n).mono ?_
  rintro e v' ⟨rfl, h1, on⟩
  exact ⟨rfl, h1, h.bel.trans (on.below (fun k hk => by have := h.base; omega) h.bel.size), h.base⟩
theorem One.state (h : One w v b m) : Calls Try.prog 15 #[.pointer (some ⟨b, 0, none⟩)] v fun e v' => e = .returned (.int .i64 m.st) ∧ v' = v := mstate_calls h.mon
theorem One.sum (h : One w v b m) : Calls Try.prog 17 #[.pointer (some ⟨b, 0, none⟩)] v fun e v' => e = .returned (cx (gl m.L) (bl m.L)) ∧ v' = v := msum_calls h.mon
theorem One.drewN (h : One w v b m) (j : Nat) : One w (v.drewN j) b m := ⟨h.mon, ⟨h.bel.os, h.bel.tape, h.bel.output, h.bel.size, h.bel.block⟩, h.base⟩
theorem One.later {w0 : World} (h : One w v b m) (hb : Below w0.heap.size w0 w) : One w0 v b m := ⟨h.mon, hb.trans (h.bel.mono hb.size), Nat.le_trans hb.size h.base⟩
end
theorem one_new (bad good silent : Int) (w : World) : Calls Try.prog 9 #[.int .i64 bad, .int .i64 good, .int .i64 silent] w fun e w' => ∃ b, e = .returned (.pointer (some ⟨b, 0, none⟩)) ∧ One w w' b (mnew bad good silent) := by
  refine (mnew_calls bad good silent w).mono ?_
  rintro e w' ⟨rfl, h1, h2, _⟩
  exact ⟨_, rfl, h1, h2, by omega⟩
/-- a row of notes -/
def Mo.heard (m : Mo) (l : List Bool) : Mo := l.foldl Mo.note m
theorem Mo.heard_snoc (m : Mo) (l : List Bool) (x : Bool) : m.heard (l ++ [x]) = (m.heard l).note x := by unfold Mo.heard; rw [List.foldl_append]; rfl
theorem Mo.heard_take (m : Mo) (l : List Bool) (k : Nat) (hk : k < l.length) : m.heard (l.take (k + 1)) = (m.heard (l.take k)).note (l.getD k false) := by
  rw [List.take_succ_eq_append_getElem hk, Mo.heard_snoc]
  simp [hk]
theorem Mo.heard_run (l : List Bool) : ∀ (m : Mo), 0 ≤ m.run → 0 ≤ (m.heard l).run ∧ (m.heard l).run ≤ m.run + l.length := by
  induction l with
  | nil => exact fun m h => ⟨h, by simp [Mo.heard]⟩
  | cons x l ih =>
    intro m h
    have h1 := (Mo.note_run m x).1
    have h2 := ih (m.note x) (by rw [h1]; split <;> omega)
    have e : m.heard (x :: l) = (m.note x).heard l := rfl
    rw [e, List.length_cons]
    rw [h1] at h2
    split at h2 <;> omega
end Go.Proofs.Ytnjmnklkbldmgaa

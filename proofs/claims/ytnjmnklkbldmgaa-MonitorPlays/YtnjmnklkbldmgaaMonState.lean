/- Two monitors of the program and one of the reference side by side. Condition: runs of good events are below what a tally can hold. -/
import Derived.Test.YtnjmnklkbldmgaaMonOne
import Derived.Test.YtnjmnklkbldmgaaMonRefNote
namespace Go.Proofs.Ytnjmnklkbldmgaa
open Go.RowKit
set_option linter.unusedVariables false

/-- Two monitors of the program at p + 1 and p + 3, one of the reference at p + 5 with its window at p + 4; what was there before stands. -/
structure Mt (w v : World) (p : Nat) (m r : Mo) : Prop where
  one : PM v (p + 1) m
  two : ∃ o, PM v (p + 3) o
  ref : RM v (p + 6) (p + 4) (p + 5) r
  bel : Below w.heap.size w v
  base : w.heap.size ≤ p
  room : p + 6 ≤ v.heap.size
theorem Mt.keep {F : Nat → Prop} {v v' : World} {b : Nat} (h : ∃ o, PM v b o) (on : Only F v v') (hF : ¬ F b) : ∃ o, PM v' b o := by
  obtain ⟨o, ho⟩ := h
  exact ⟨o, ho.only on hF⟩
section
variable {w v : World} {p : Nat} {m r : Mo}
theorem Mt.noteO (h : Mt w v p m r) : Calls Try.prog 11 #[.pointer (some ⟨p + 3, 0, none⟩), .bool false] v fun e v' => (∃ s, e = .returned (.int .i64 s)) ∧ Mt w v' p m r := by
  obtain ⟨o, ho⟩ := h.two
  refine (mnote_calls ho false (fun e => by cases e)).mono ?_
  rintro e v' ⟨rfl, h1, on⟩
  exact ⟨⟨_, rfl⟩, h.one.only on (by omega), ⟨_, h1⟩, h.ref.only on (fun k hk => by omega) (by omega) (by omega), h.bel.trans (on.below (fun k hk => by have := h.base; omega) h.bel.size), h.base, Nat.le_trans h.room on.size⟩
theorem Mt.noteM (h : Mt w v p m r) (ok : Bool) (hr : m.run < 4294967295) : Calls Try.prog 11 #[.pointer (some ⟨p + 1, 0, none⟩), .bool ok] v fun e v' => e = .returned (.int .i64 (m.note ok).st) ∧ Mt w v' p (m.note ok) r := by
  refine (mnote_calls h.one ok (fun _ => hr)).mono ?_
  rintro e v' ⟨rfl, h1, on⟩
  exact ⟨rfl, h1, Mt.keep h.two on (by omega), h.ref.only on (fun k hk => by omega) (by omega) (by omega), h.bel.trans (on.below (fun k hk => by have := h.base; omega) h.bel.size), h.base, Nat.le_trans h.room on.size⟩
theorem Mt.passM (h : Mt w v p m r) (n : Int) : Calls Try.prog 12 #[.pointer (some ⟨p + 1, 0, none⟩), .int .i64 n] v fun e v' => e = .returned (.int .i64 (m.pass n).st) ∧ Mt w v' p (m.pass n) r := by
  refine (mpass_calls h.one n).mono ?_
  rintro e v' ⟨rfl, h1, on⟩
  exact ⟨rfl, h1, Mt.keep h.two on (by omega), h.ref.only on (fun k hk => by omega) (by omega) (by omega), h.bel.trans (on.below (fun k hk => by have := h.base; omega) h.bel.size), h.base, Nat.le_trans h.room on.size⟩
theorem Mt.noteR (h : Mt w v p m r) (ok : Bool) (hr : r.run < 4294967295) : Calls Try.prog 14 #[.pointer (some ⟨p + 5, 0, none⟩), .bool ok] v fun e v' => e = .returned (.int .i64 (r.note ok).st) ∧ Mt w v' p m (r.note ok) := by
  refine (rnote_calls h.ref ok hr h.room).mono ?_
  rintro e v' ⟨rfl, h1, on⟩
  exact ⟨rfl, h.one.only on (by omega), Mt.keep h.two on (by omega), h1, h.bel.trans (on.below (fun k hk => by have := h.base; omega) h.bel.size), h.base, Nat.le_trans h.room on.size⟩
theorem Mt.passR (h : Mt w v p m r) (n : Int) : Calls Try.prog 13 #[.pointer (some ⟨p + 5, 0, none⟩), .int .i64 n] v fun e v' => e = .returned (.int .i64 (r.pass n).st) ∧ Mt w v' p m (r.pass n) := by
  refine (rpass_calls h.ref n).mono ?_
  rintro e v' ⟨rfl, h1, on⟩
  exact ⟨rfl, h.one.only on (by omega), Mt.keep h.two on (by omega), h1, h.bel.trans (on.below (fun k hk => by have := h.base; omega) h.bel.size), h.base, Nat.le_trans h.room on.size⟩
theorem Mt.stateM (h : Mt w v p m r) : Calls Try.prog 15 #[.pointer (some ⟨p + 1, 0, none⟩)] v fun e v' => e = .returned (.int .i64 m.st) ∧ v' = v := mstate_calls h.one
theorem Mt.stateR (h : Mt w v p m r) : Calls Try.prog 16 #[.pointer (some ⟨p + 5, 0, none⟩)] v fun e v' => e = .returned (.int .i64 r.st) ∧ v' = v := rstate_calls h.ref
theorem Mt.sumM (h : Mt w v p m r) : Calls Try.prog 17 #[.pointer (some ⟨p + 1, 0, none⟩)] v fun e v' => e = .returned (cx (gl m.L) (bl m.L)) ∧ v' = v := msum_calls h.one
theorem Mt.sumR (h : Mt w v p m r) : Calls Try.prog 18 #[.pointer (some ⟨p + 5, 0, none⟩)] v fun e v' => e = .returned (cx (gl r.L) (bl r.L)) ∧ ∃ j, v' = v.drewN j := rsum_calls h.ref
theorem Mt.drewN (h : Mt w v p m r) (j : Nat) : Mt w (v.drewN j) p m r := ⟨h.one, h.two, h.ref.drewN j, ⟨h.bel.os, h.bel.tape, h.bel.output, h.bel.size, h.bel.block⟩, h.base, h.room⟩
end
end Go.Proofs.Ytnjmnklkbldmgaa

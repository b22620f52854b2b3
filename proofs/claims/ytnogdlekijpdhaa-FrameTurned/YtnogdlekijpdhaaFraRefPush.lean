/- Push of the reference's reader: what it tells, and the state that it leaves. Condition: what was received is at most 999 octets. -/
import Derived.Test.YtnogdlekijpdhaaFraRef
import Derived.Test.YtnogdlekijpdhaaFraPush
import Derived.StillTailTactics
namespace Go.Proofs.Ytnogdlekijpdhaa
open Go.RowKit
open Fcs Oct Fra
set_option linter.unusedVariables false

/-- what a Push of x leaves -/
def RPushed (F : Nat → Prop) (b M : Nat) (wide : Bool) (s : St) (x : UInt8) (w : World) (e : Ending) (w' : World) : Prop :=
  ∃ B d, e = .returned (.tuple #[.int .i64 (tells wide s x).1, .slice B (tells wide s x).2.length d]) ∧ Own w' w.heap.size B d (tells wide s x).2 ∧ RR w' (more F w w') b M wide (next (M + sumN wide) s x) ∧ Only F w w'
/-- five stores -/
def cleared (w : World) (b : Nat) : World := ((((w.setCell ⟨b, 2, none⟩ (.bool true)).setCell ⟨b, 3, none⟩ (.slice none 0 0)).setCell ⟨b, 4, none⟩ (.int .i64 0)).setCell ⟨b, 5, none⟩ (.bool false)).setCell ⟨b, 6, none⟩ (.bool false)
theorem cleared_only (w : World) (b : Nat) : Only (fun k => k = b) w (cleared w b) :=
  (((((Only.refl (fun k => k = b) w).setCell (p := ⟨b, 2, none⟩) (.inl rfl) _).setCell (p := ⟨b, 3, none⟩) (.inl rfl) _).setCell (p := ⟨b, 4, none⟩) (.inl rfl) _).setCell (p := ⟨b, 5, none⟩) (.inl rfl) _).setCell (p := ⟨b, 6, none⟩) (.inl rfl) _
theorem rs_start : RS (.rd false []) [] 0 := ⟨fun r => by rw [List.nil_append], by simp, rfl, Nat.zero_le _⟩
theorem rfin_begin {F : Nat → Prop} {b M : Nat} {wide : Bool} {s : St} {w w1 : World} {i : Bool} {A : Option Addr} {m c n : Nat} {e lg : Bool} {B : Option Addr} {d : Nat} (hb : w1.heap[b]? = some (.cells (rcells M wide i A m c n e lg) 48 (0, 0)))
    (hF : F b) (hlt : ∀ k, F k → k < w.heap.size) (bel : Below w.heap.size w w1) (own : Own w1 w.heap.size B d (ends wide s).2) :
    RPushed F b M wide s 126 w (.returned (.tuple #[.int .i64 (ends wide s).1, .slice B (ends wide s).2.length d])) (cleared w1 b) := by
  have o1 := cleared_only w1 b
  have h2 : (cleared w1 b).heap[b]? = some (.cells (rcells M wide true none 0 0 0 false false) 48 (0, 0)) := rset6 (rset5 (rset4 (rset3 (rset2 hb true) none 0 0) 0) false) false
  have o2 : Only F w (cleared w1 b) := (Only.of_below F bel).trans o1 (fun i _ hi => by rw [hi]; exact hF)
  refine ⟨B, d, by rw [tells_flag], by rw [tells_flag]; exact own.only o1 (fun k hk e => by have := (own.blk_ge k hk).1; have := hlt b hF; omega), ?_, o2⟩
  rw [next_flag]
  exact ⟨none, 0, [], 0, h2, Own.nil _ _, rs_start, by simp [blk], .inl hF, (fun k hk => by simp [blk] at hk), more_lt hlt o2.size⟩
theorem rfin_same {F : Nat → Prop} {b M : Nat} {wide : Bool} {s : St} {x : UInt8} {w : World} (h : RR w F b M wide s) (hx : x ≠ 126) (hs : Fra.step (M + sumN wide) s x = s) : RPushed F b M wide s x w (.returned (.tuple #[.int .i64 0, .slice none 0 0])) w := by
  refine ⟨none, 0, by rw [tells_plain wide s hx]; rfl, by rw [tells_plain wide s hx]; exact Own.nil _ _, ?_, Only.refl _ _⟩
  rw [next_plain s hx, hs]
  obtain ⟨A, c, q, n, h1, h2, hq, h3, h4, h5, h6⟩ := h
  exact ⟨A, c, q, n, h1, h2, hq, h3, .inl h4, fun k hk => .inl (h5 k hk), more_lt h6 (Nat.le_refl _)⟩

set_option maxHeartbeats 1000000 in
theorem rpush_same (F : Nat → Prop) (b M : Nat) (wide : Bool) (s : St) (x : UInt8) (w : World) (h : RR w F b M wide s) (hx : x ≠ 126) (hs : s = .out ∨ s = .long) :
    Calls Try.prog 14 #[.pointer (some ⟨b, 0, none⟩), bv x] w (RPushed F b M wide s x w) := by
  have h0 := h
  obtain ⟨A, c, q, n, hb, _⟩ := h0
  obtain ⟨_, _, c2, _, _, _, c6⟩ := rcell hb
  have hbs : b < w.heap.size := lt_of_block hb
  have hf := no_flag hx
  clear hb
  unfold bv
  rcases hs with rfl | rfl
  · have c2 : w.cell? ⟨b, 2, none⟩ = some (.bool false) := c2
    have FS := Lib.hid (rfin_same h hx (s := .out) rfl)
    clear hx h c6
    go_enter Try.func14, Try.ntmps14
    go_wp2
    go_ret2
    exact FS.out
  · have c2 : w.cell? ⟨b, 2, none⟩ = some (.bool true) := c2
    have c6 : w.cell? ⟨b, 6, none⟩ = some (.bool true) := c6
    have FS := Lib.hid (rfin_same h hx (s := .long) rfl)
    clear hx h
    go_enter Try.func14, Try.ntmps14
    go_wp2
    go_ret2
    exact FS.out
set_option maxHeartbeats 1000000 in
theorem rpush_flag (F : Nat → Prop) (b M : Nat) (wide : Bool) (s : St) (w : World) (h : RR w F b M wide s) (hacc : s.acc.length ≤ 999) :
    Calls Try.prog 14 #[.pointer (some ⟨b, 0, none⟩), bv 126] w (RPushed F b M wide s 126 w) := by
  have EC := ends_calls w F b M wide s h (by omega)
  obtain ⟨A, c, q, n, hb, own, hq, hne, hF, hFA, hlt⟩ := h
  have hbs : b < w.heap.size := lt_of_block hb
  have hbv : bv 126 = .int .u8 126 := rfl
  rw [hbv]
  go_enter Try.func14, Try.ntmps14
  go_wp2_with fail
  refine EC.mono ?_
  rintro e w1 ⟨B, d, rfl, o, bel⟩
  clear EC
  have hb1 := (bel.block b hbs).trans hb
  obtain ⟨_, _, c2, c3, c4, c5, c6⟩ := rcell hb1
  have f2 := frozen_of_row w1 b 2 _ _ hb1
  have f3 := frozen_of_row w1 b 3 _ _ hb1
  have f4 := frozen_of_row w1 b 4 _ _ hb1
  have f5 := frozen_of_row w1 b 5 _ _ hb1
  have f6 := frozen_of_row w1 b 6 _ _ hb1
  have FS := Lib.hid (rfin_begin (s := s) hb1 hF hlt bel o)
  have hbs1 : b < w1.heap.size := lt_of_block hb1
  unfold cleared at FS
  clear hb hb1 o bel hq own hne hF hFA hlt
  go_wp2
  go_ret2
  exact FS.out
end Go.Proofs.Ytnogdlekijpdhaa

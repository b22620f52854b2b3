/- Push of the program's reader: what it tells, and the state that it leaves. Condition: what was received is at most 999 octets. -/
import Derived.Test.YtnogdlekijpdhaaFraJudge
import Derived.Test.YtnogdlekijpdhaaScopeLabels
import Derived.Test.YtnogdlekijpdhaaOctStuff
namespace Go.Proofs.Ytnogdlekijpdhaa
open Go.RowKit
open Fcs Oct Fra
set_option linter.unusedVariables false

/-- the frame at a jump -/
def pfr (b : Nat) (x : UInt8) (k v : Value) (u : Nat → Value) : Act :=
  { tmps := #[.pointer (some ⟨b, 0, none⟩), bv x, undef, undef, .int .i64 0, .slice none 0 0, k, v, u 8, u 9, u 10, u 11, u 12, u 13, u 14, u 15, u 16, u 17, u 18, u 19, u 20, u 21, u 22, u 23, u 24, u 25, u 26, u 27, u 28, u 29, u 30, u 31, u 32, u 33, u 34, u 35, u 36, u 37, u 38, u 39, u 40, u 41, u 42, u 43, u 44, u 45, u 46, u 47, u 48, u 49, u 50, u 51, u 52, u 53, u 54, u 55, u 56, u 57, u 58, u 59, u 60, u 61, u 62, u 63, u 64, u 65, u 66, u 67, u 68, u 69, u 70, u 71, u 72, u 73, u 74, u 75, u 76], defers := [] }
theorem pfr_mk {b : Nat} {x : UInt8} {k v : Value} {a : Act} (ha : a = pfr b x k v (fun j => a.tmps.getD j undef)) : ∃ u, a = pfr b x k v u := ⟨_, ha⟩
/-- at the label of the state -/
def PJ1 (w : World) (b : Nat) (x : UInt8) (a : Act) (w' : World) : Prop := w' = w ∧ ∃ u, a = pfr b x (.int .i64 0) (.slice none 0 0) u
/-- behind a Flag -/
def PJ2 (w : World) (b : Nat) (wide : Bool) (s : St) (a : Act) (w' : World) : Prop := ∃ B d, (∃ u, a = pfr b 126 (.int .i64 (ends wide s).1) (.slice B (ends wide s).2.length d) u) ∧ Below w.heap.size w w' ∧ Own w' w.heap.size B d (ends wide s).2
/-- what a Push of x leaves -/
def Pushed (F : Nat → Prop) (b L : Nat) (wide : Bool) (s : St) (x : UInt8) (w : World) (e : Ending) (w' : World) : Prop :=
  ∃ B d, e = .returned (.tuple #[.int .i64 (tells wide s x).1, .slice B (tells wide s x).2.length d]) ∧ Own w' w.heap.size B d (tells wide s x).2 ∧ PR w' (more F w w') b L wide (next L s x) ∧ Only F w w'
theorem tells_flag (wide : Bool) (s : St) : tells wide s 126 = ends wide s := by unfold tells; rw [if_pos rfl]
theorem tells_plain (wide : Bool) (s : St) {x : UInt8} (h : x ≠ 126) : tells wide s x = (0, []) := by unfold tells; rw [if_neg h]
theorem more_lt {F : Nat → Prop} {w w' : World} (h : ∀ k, F k → k < w.heap.size) (hs : w.heap.size ≤ w'.heap.size) : ∀ k, more F w w' k → k < w'.heap.size := by
  rintro k (hk | ⟨_, hk⟩)
  · exact Nat.lt_of_lt_of_le (h k hk) hs
  · exact hk
/-- the end behind a Flag -/
theorem fin_begin {F : Nat → Prop} {b L : Nat} {wide : Bool} {s : St} {w w1 : World} {n : Nat} {A : Option Addr} {m c : Nat} {B : Option Addr} {d : Nat} (hb : w1.heap[b]? = some (.cells (pcells L wide n A m c) 45 (0, 0)))
    (hF : F b) (hlt : ∀ k, F k → k < w.heap.size) (bel : Below w.heap.size w w1) (own : Own w1 w.heap.size B d (ends wide s).2) :
    Pushed F b L wide s 126 w (.returned (.tuple #[.int .i64 (ends wide s).1, .slice B (ends wide s).2.length d])) ((w1.setCell ⟨b, 2, none⟩ (.int .i64 1)).setCell ⟨b, 3, none⟩ (.slice none 0 0)) := by
  have o1 : Only (fun k => k = b) w1 ((w1.setCell ⟨b, 2, none⟩ (.int .i64 1)).setCell ⟨b, 3, none⟩ (.slice none 0 0)) := ((Only.refl (fun k => k = b) w1).setCell (p := ⟨b, 2, none⟩) (.inl rfl) _).setCell (p := ⟨b, 3, none⟩) (.inl rfl) _
  have h1 := pset hb 1
  have h2 := pset3 h1 none 0 0
  have o2 : Only F w ((w1.setCell ⟨b, 2, none⟩ (.int .i64 1)).setCell ⟨b, 3, none⟩ (.slice none 0 0)) := (Only.of_below F bel).trans o1 (fun i _ hi => by rw [hi]; exact hF)
  refine ⟨B, d, by rw [tells_flag], by rw [tells_flag]; exact own.only o1 (fun k hk e => by have := (own.blk_ge k hk).1; have := hlt b hF; omega), ?_, o2⟩
  · rw [next_flag]
    exact ⟨none, 0, h2, Own.nil _ _, by simp [blk], .inl hF, (fun k hk => by simp [blk] at hk), more_lt hlt o2.size⟩
/-- nothing turns -/
theorem fin_same {F : Nat → Prop} {b L : Nat} {wide : Bool} {s : St} {x : UInt8} {w : World} (h : PR w F b L wide s) (hx : x ≠ 126) (hs : Fra.step L s x = s) : Pushed F b L wide s x w (.returned (.tuple #[.int .i64 0, .slice none 0 0])) w := by
  refine ⟨none, 0, by rw [tells_plain wide s hx]; rfl, by rw [tells_plain wide s hx]; exact Own.nil _ _, ?_, Only.refl _ _⟩
  rw [next_plain s hx, hs]
  obtain ⟨A, c, h1, h2, h3, h4, h5, h6⟩ := h
  exact ⟨A, c, h1, h2, h3, .inl h4, fun k hk => .inl (h5 k hk), more_lt h6 (Nat.le_refl _)⟩
/-- an Escape -/
theorem fin_esc {F : Nat → Prop} {b L : Nat} {wide : Bool} {acc : List UInt8} {w : World} (h : PR w F b L wide (.rd false acc)) : Pushed F b L wide (.rd false acc) 125 w (.returned (.tuple #[.int .i64 0, .slice none 0 0])) (w.setCell ⟨b, 2, none⟩ (.int .i64 2)) := by
  obtain ⟨A, c, h1, h2, h3, h4, h5, h6⟩ := h
  have o : Only (fun k => k = b) w (w.setCell ⟨b, 2, none⟩ (.int .i64 2)) := (Only.refl (fun k => k = b) w).setCell (p := ⟨b, 2, none⟩) (.inl rfl) _
  refine ⟨none, 0, by rw [tells_plain wide _ (by decide)]; rfl, by rw [tells_plain wide _ (by decide)]; exact Own.nil _ _, ?_, o.mono (fun i _ hi => by rw [hi]; exact h4)⟩
  rw [next_plain _ (by decide)]
  exact ⟨A, c, pset h1 2, h2.only o (fun k hk e => h3 (by rw [hk, e])), h3, .inl h4, fun k hk => .inl (h5 k hk), more_lt h6 o.size⟩

set_option maxHeartbeats 1000000 in
theorem push_same (F : Nat → Prop) (b L : Nat) (wide : Bool) (s : St) (x : UInt8) (w : World) (h : PR w F b L wide s) (hx : x ≠ 126) (hs : s = .out ∨ s = .long) :
    Calls Try.prog 13 #[.pointer (some ⟨b, 0, none⟩), bv x] w (Pushed F b L wide s x w) := by
  have h0 := h
  obtain ⟨A, c, hb, _⟩ := h0
  obtain ⟨_, _, hc2, _⟩ := pcell hb
  have hbs : b < w.heap.size := lt_of_block hb
  have hf := no_flag hx
  clear hb
  rcases hs with rfl | rfl
  · have hc2 : w.cell? ⟨b, 2, none⟩ = some (.int .i64 0) := hc2
    have FS := Lib.hid (fin_same h hx (s := .out) rfl)
    clear hx h
    unfold bv
    go_enter Try.func13, Try.ntmps13
    go_wp2
    refine wp_scope_two 0 9 (by decide) (PJ1 w b x) (fun _ _ => False) ?_ ?_ (fun _ _ h => h.elim)
    · go_wp2
      go_step3
      exact ⟨rfl, rfl, pfr_mk rfl⟩
    · rintro a w' ⟨rfl, u, rfl⟩
      unfold pfr bv
      refine ⟨_, rfl, ?_⟩
      go_wp2
      rw [jumps_ret]
      go_ret2
      exact FS.out
  · have hc2 : w.cell? ⟨b, 2, none⟩ = some (.int .i64 3) := hc2
    have FS := Lib.hid (fin_same h hx (s := .long) rfl)
    clear hx h
    unfold bv
    go_enter Try.func13, Try.ntmps13
    go_wp2
    refine wp_scope_two 3 9 (by decide) (PJ1 w b x) (fun _ _ => False) ?_ ?_ (fun _ _ h => h.elim)
    · go_wp2
      go_step3
      exact ⟨rfl, rfl, pfr_mk rfl⟩
    · rintro a w' ⟨rfl, u, rfl⟩
      unfold pfr bv
      refine ⟨_, rfl, ?_⟩
      go_wp2
      rw [jumps_ret]
      go_ret2
      exact FS.out
set_option maxHeartbeats 1000000 in
theorem push_esc (F : Nat → Prop) (b L : Nat) (wide : Bool) (acc : List UInt8) (w : World) (h : PR w F b L wide (.rd false acc)) :
    Calls Try.prog 13 #[.pointer (some ⟨b, 0, none⟩), bv 125] w (Pushed F b L wide (.rd false acc) 125 w) := by
  have h0 := h
  obtain ⟨A, c, hb, _⟩ := h0
  obtain ⟨_, _, hc2, _⟩ := pcell hb
  have hbs : b < w.heap.size := lt_of_block hb
  have hfz := frozen_of_row w b 2 _ _ hb
  have hc2 : w.cell? ⟨b, 2, none⟩ = some (.int .i64 1) := hc2
  have FS := Lib.hid (fin_esc h)
  clear h hb
  have hbv : bv 125 = .int .u8 125 := rfl
  rw [hbv]
  go_enter Try.func13, Try.ntmps13
  go_wp2
  refine wp_scope_two 1 9 (by decide) (PJ1 w b 125) (fun _ _ => False) ?_ ?_ (fun _ _ h => h.elim)
  · go_wp2
    go_step3
    exact ⟨rfl, rfl, pfr_mk rfl⟩
  · rintro a w' ⟨rfl, u, rfl⟩
    unfold pfr
    rw [hbv]
    refine ⟨_, rfl, ?_⟩
    go_wp2
    rw [jumps_ret]
    go_ret2
    exact FS.out
set_option maxHeartbeats 2000000 in
theorem push_flag (F : Nat → Prop) (b L : Nat) (wide : Bool) (s : St) (w : World) (h : PR w F b L wide s) (hacc : s.acc.length ≤ 999) :
    Calls Try.prog 13 #[.pointer (some ⟨b, 0, none⟩), bv 126] w (Pushed F b L wide s 126 w) := by
  obtain ⟨A, c, hb, own, hne, hF, hFA, hlt⟩ := h
  obtain ⟨_, _, hc2, _⟩ := pcell hb
  have hbs : b < w.heap.size := lt_of_block hb
  have FB := Lib.hid (show ∀ w1 B d, Below w.heap.size w w1 → Own w1 w.heap.size B d (ends wide s).2 → Pushed F b L wide s 126 w (.returned (.tuple #[.int .i64 (ends wide s).1, .slice B (ends wide s).2.length d])) ((w1.setCell ⟨b, 2, none⟩ (.int .i64 1)).setCell ⟨b, 3, none⟩ (.slice none 0 0)) from
    fun w1 B d bel o => fin_begin ((bel.block b hbs).trans hb) hF hlt bel o)
  have HB := Lib.hid (show ∀ w1, Below w.heap.size w w1 → (w1.cell? ⟨b, 2, none⟩ = some (.int .i64 (s.num : Int)) ∧ w1.cell? ⟨b, 3, none⟩ = some (.slice A s.acc.length c) ∧ w1.frozen? ⟨b, 2, none⟩ = false ∧ w1.frozen? ⟨b, 3, none⟩ = false) from
    fun w1 bel => ⟨(pcell ((bel.block b hbs).trans hb)).2.2.1, (pcell ((bel.block b hbs).trans hb)).2.2.2, frozen_of_row w1 b 2 _ _ ((bel.block b hbs).trans hb), frozen_of_row w1 b 3 _ _ ((bel.block b hbs).trans hb)⟩)
  have JD := Lib.hid (show ∀ acc, s = .rd false acc → Calls Try.prog 21 #[.pointer (some ⟨b, 0, none⟩)] w (Told (ends wide s) w) from by
    rintro acc rfl
    exact judge_calls w b L wide _ A c acc hb own (Nat.le_trans (show acc.length ≤ 999 from hacc) (by decide)))
  have hbv : bv 126 = .int .u8 126 := rfl
  clear hb own hne hF hFA hlt hacc
  rw [hbv]
  go_enter Try.func13, Try.ntmps13
  go_wp2
  refine wp_scope_two s.num 4 (by rcases st_cases s with rfl | ⟨acc, rfl⟩ | ⟨acc, rfl⟩ | rfl <;> simp [St.num, St.out, St.rd, St.long]) (PJ1 w b 126) (PJ2 w b wide s) ?_ ?_ ?_
  · clear FB HB JD
    rcases st_cases s with rfl | ⟨acc, rfl⟩ | ⟨acc, rfl⟩ | rfl
    · have hc2 : w.cell? ⟨b, 2, none⟩ = some (.int .i64 0) := hc2
      go_wp2
      go_step3
      exact ⟨rfl, rfl, pfr_mk rfl⟩
    · have hc2 : w.cell? ⟨b, 2, none⟩ = some (.int .i64 1) := hc2
      go_wp2
      go_step3
      exact ⟨rfl, rfl, pfr_mk rfl⟩
    · have hc2 : w.cell? ⟨b, 2, none⟩ = some (.int .i64 2) := hc2
      go_wp2
      go_step3
      exact ⟨rfl, rfl, pfr_mk rfl⟩
    · have hc2 : w.cell? ⟨b, 2, none⟩ = some (.int .i64 3) := hc2
      go_wp2
      go_step3
      exact ⟨rfl, rfl, pfr_mk rfl⟩
  · rintro a w' ⟨rfl, u, rfl⟩
    clear FB HB
    unfold pfr
    rw [hbv]
    rcases st_cases s with rfl | ⟨acc, rfl⟩ | ⟨acc, rfl⟩ | rfl
    · refine ⟨_, rfl, ?_⟩
      go_wp2
      go_step3
      exact ⟨rfl, none, 0, pfr_mk rfl, Below.refl _ _, Own.nil _ _⟩
    · refine ⟨_, rfl, ?_⟩
      have J1 := JD.out acc rfl
      go_wp2_with fail
      refine J1.mono ?_
      rintro e w2 ⟨B, d, rfl, o, bel⟩
      clear J1
      go_wp2
      go_step3
      exact ⟨rfl, B, d, pfr_mk rfl, bel, o⟩
    · refine ⟨_, rfl, ?_⟩
      go_wp2
      go_step3
      exact ⟨rfl, none, 0, pfr_mk rfl, Below.refl _ _, Own.nil _ _⟩
    · refine ⟨_, rfl, ?_⟩
      go_wp2
      go_step3
      exact ⟨rfl, none, 0, pfr_mk rfl, Below.refl _ _, Own.nil _ _⟩
  · rintro a w' ⟨B, d, ⟨u, rfl⟩, bel, o⟩
    obtain ⟨q2, q3, f2, f3⟩ := HB.out w' bel
    have hbs' : b < w'.heap.size := Nat.lt_of_lt_of_le hbs bel.size
    have FS := Lib.hid (FB.out w' B d bel o)
    clear FB HB JD o bel hc2
    unfold pfr
    rw [hbv]
    refine ⟨_, rfl, ?_⟩
    go_wp2
    rw [jumps_ret]
    go_ret2
    exact FS.out
end Go.Proofs.Ytnogdlekijpdhaa

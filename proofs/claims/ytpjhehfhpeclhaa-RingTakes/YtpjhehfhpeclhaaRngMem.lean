/- A ring of the program in memory: its fields, its octets, the lengths of its pieces; New, Len, Dropped, Clone. No condition. -/
import Derived.Test.YtpjhehfhpeclhaaMidRow
import Derived.Test.YtpjhehfhpeclhaaRngPlain
import Derived.Test.YtpjhehfhpeclhaaStepApp
import Derived.StillTailTactics
import Derived.BigQuiet
import Derived.Deep.DeepCutAuto
namespace Go.Proofs.Ytpjhehfhpeclhaa
open Go.RowKit
set_option linter.unusedVariables false

/-- the value of a length -/
def iv (x : Nat) : Value := .int .i64 (x : Int)
theorem etInt : ET 36 3 (.int .i64 0) 8 := ⟨Try.underlying36, by kernel_rfl, rfl, by decide⟩
/-- the cells of a ring -/
def rc (R : Nat) (A : Option Addr) (m c g : Nat) (B : Option Addr) (k d D : Nat) : Array Value := #[.int .i64 (R : Int), .slice A m c, .int .i64 (g : Int), .slice B k d, .int .i64 (D : Int)]
/-- The block b holds a ring with these fields; it and its rows lie in F. -/
def Raw (w : World) (F : Nat → Prop) (b R : Nat) (o : List UInt8) (g : Nat) (wh : List Nat) (D : Nat) : Prop :=
  ∃ A c B d, w.heap[b]? = some (.cells (rc R A o.length c g B wh.length d D) 41 (0, 0)) ∧ Mid w A c o ∧ MidV 3 w B d (wh.map iv) ∧ F b ∧ (∀ k, blk A = some k → F k) ∧ (∀ k, blk B = some k → F k) ∧ ∀ k, F k → k < w.heap.size
/-- The block b holds a ring in the state s; it and its rows lie in F. -/
def PQ (w : World) (F : Nat → Prop) (b : Nat) (s : Rng) : Prop := Raw w F b s.R s.o s.g s.wh s.D ∧ s.Ok
/-- The ring has come into the state s; nothing but it has turned. -/
def Turn (F : Nat → Prop) (b : Nat) (s : Rng) (w w' : World) : Prop := PQ w' (more F w w') b s ∧ Only F w w'
section
variable {w w' : World} {F G : Nat → Prop} {b R g D : Nat} {o : List UInt8} {wh : List Nat} {s : Rng} {A B : Option Addr} {m c k d : Nat}
theorem rcell (h : w.heap[b]? = some (.cells (rc R A m c g B k d D) 41 (0, 0))) :
    w.cell? ⟨b, 0, none⟩ = some (.int .i64 (R : Int)) ∧ w.cell? ⟨b, 1, none⟩ = some (.slice A m c) ∧ w.cell? ⟨b, 2, none⟩ = some (.int .i64 (g : Int)) ∧ w.cell? ⟨b, 3, none⟩ = some (.slice B k d) ∧ w.cell? ⟨b, 4, none⟩ = some (.int .i64 (D : Int)) := by
  refine ⟨?_, ?_, ?_, ?_, ?_⟩ <;> rw [cell_of_row w b _ _ _ (0, 0) h] <;> rfl
theorem more_lt (hlt : ∀ k, F k → k < w.heap.size) (hs : w.heap.size ≤ w'.heap.size) : ∀ k, more F w w' k → k < w'.heap.size := fun k hk => hk.elim (fun h => Nat.lt_of_lt_of_le (hlt k h) hs) (fun h => h.2)
theorem Raw.lt (h : Raw w F b R o g wh D) : ∀ k, F k → k < w.heap.size := by obtain ⟨_, _, _, _, _, _, _, _, _, _, h⟩ := h; exact h
theorem Raw.only (h : Raw w F b R o g wh D) (on : Only G w w') (hd : ∀ k, F k → ¬ G k) : Raw w' F b R o g wh D := by
  obtain ⟨A, c, B, d, h1, h2, h3, h4, h5, h6, h7⟩ := h
  exact ⟨A, c, B, d, (on.block b (h7 b h4) (hd b h4)).trans h1, h2.only on (fun k hk => hd k (h5 k hk)), h3.only on (fun k hk => hd k (h6 k hk)), h4, h5, h6, fun k hk => Nat.lt_of_lt_of_le (h7 k hk) on.size⟩
theorem Raw.more (h : Raw w' F b R o g wh D) (hlt : ∀ k, F k → k < w.heap.size) (hs : w.heap.size ≤ w'.heap.size) : Raw w' (more F w w') b R o g wh D := by
  obtain ⟨A, c, B, d, h1, h2, h3, h4, h5, h6, h7⟩ := h
  exact ⟨A, c, B, d, h1, h2, h3, .inl h4, fun k hk => .inl (h5 k hk), fun k hk => .inl (h6 k hk), more_lt hlt hs⟩
theorem Raw.drewN (h : Raw w F b R o g wh D) (n : Nat) : Raw (w.drewN n) F b R o g wh D := h
theorem PQ.ok (h : PQ w F b s) : s.Ok := h.2
theorem PQ.lt (h : PQ w F b s) : ∀ k, F k → k < w.heap.size := h.1.lt
theorem PQ.only (h : PQ w F b s) (on : Only G w w') (hd : ∀ k, F k → ¬ G k) : PQ w' F b s := ⟨h.1.only on hd, h.2⟩
theorem Turn.of_same (h : PQ w' F b s) (on : Only F w w') (hlt : ∀ k, F k → k < w.heap.size) : Turn F b s w w' := ⟨⟨h.1.more hlt on.size, h.2⟩, on⟩
theorem Turn.refl (h : PQ w F b s) : Turn F b s w w := .of_same h (Only.refl _ _) h.lt
theorem Turn.from_drewN {n : Nat} (h : Turn F b s (w.drewN n) w') : Turn F b s w w' := ⟨h.1, ⟨h.2.os, h.2.tape, h.2.output, h.2.size, h.2.block⟩⟩
theorem Turn.drewN (h : Turn F b s w w') (n : Nat) : Turn F b s w (w'.drewN n) := ⟨h.1, ⟨h.2.os, h.2.tape, h.2.output, h.2.size, h.2.block⟩⟩
/-- what the blocks of the rows are not -/
theorem rows_apart (hb : w.heap[b]? = some (.cells (rc R A m c g B k d D) 41 (0, 0))) {A' B' : Option Addr} {c' d' : Nat} {o : List UInt8} {vs : List Value} (hA : Mid w A' c' o) (hB : MidV 3 w B' d' vs) :
    blk A' ≠ some b ∧ blk B' ≠ some b ∧ ∀ k, blk A' = some k → blk B' ≠ some k := by
  refine ⟨fun e => ?_, fun e => ?_, fun k h1 h2 => ?_⟩
  · obtain ⟨cur, h⟩ := hA.type b e
    exact types_apart (by decide) h hb
  · obtain ⟨cur, h⟩ := hB.type b e
    exact types_apart (by decide) h hb
  · obtain ⟨cur, h⟩ := hA.type k h1
    obtain ⟨cur', h'⟩ := hB.type k h2
    exact types_apart (by decide) h h'
theorem only_set (w : World) (p : Addr) (u : Value) : Only (fun k => k = p.block) w (w.setCell p u) := (Only.refl (fun k => k = p.block) w).setCell (p := p) (.inl rfl) u
/-- a number of it has turned -/
theorem Raw.setD (h : Raw w F b R o g wh D) (D' : Nat) : w.frozen? ⟨b, 4, none⟩ = false ∧ Raw (w.setCell ⟨b, 4, none⟩ (.int .i64 (D' : Int))) F b R o g wh D' ∧ Only F w (w.setCell ⟨b, 4, none⟩ (.int .i64 (D' : Int))) := by
  obtain ⟨A, c, B, d, h1, h2, h3, h4, h5, h6, h7⟩ := h
  obtain ⟨a1, a2, a3⟩ := rows_apart h1 h2 h3
  have on := only_set w ⟨b, 4, none⟩ (.int .i64 (D' : Int))
  exact ⟨frozen_of_row w b 4 _ _ h1, ⟨A, c, B, d, heap_setCell_same w b 4 _ _ _ h1, h2.only on (fun k hk e => a1 (by rw [hk, e])), h3.only on (fun k hk e => a2 (by rw [hk, e])), h4, h5, h6, fun k hk => Nat.lt_of_lt_of_le (h7 k hk) on.size⟩, on.mono (fun k _ e => by rw [e]; exact h4)⟩
theorem Raw.setG (h : Raw w F b R o g wh D) (g' : Nat) : w.frozen? ⟨b, 2, none⟩ = false ∧ Raw (w.setCell ⟨b, 2, none⟩ (.int .i64 (g' : Int))) F b R o g' wh D ∧ Only F w (w.setCell ⟨b, 2, none⟩ (.int .i64 (g' : Int))) := by
  obtain ⟨A, c, B, d, h1, h2, h3, h4, h5, h6, h7⟩ := h
  obtain ⟨a1, a2, a3⟩ := rows_apart h1 h2 h3
  have on := only_set w ⟨b, 2, none⟩ (.int .i64 (g' : Int))
  exact ⟨frozen_of_row w b 2 _ _ h1, ⟨A, c, B, d, heap_setCell_same w b 2 _ _ _ h1, h2.only on (fun k hk e => a1 (by rw [hk, e])), h3.only on (fun k hk e => a2 (by rw [hk, e])), h4, h5, h6, fun k hk => Nat.lt_of_lt_of_le (h7 k hk) on.size⟩, on.mono (fun k _ e => by rw [e]; exact h4)⟩
/-- the octets have become o', in its own memory or in new -/
theorem raw_setO {c' : Nat} {o' : List UInt8} {A' : Option Addr} (h1 : w.heap[b]? = some (.cells (rc R A o.length c g B wh.length d D) 41 (0, 0))) (h3 : MidV 3 w B d (wh.map iv)) (h4 : F b) (h6 : ∀ k, blk B = some k → F k) (hlt : ∀ k, F k → k < w.heap.size)
    (hA : Mid w A' c' o') (hF : ∀ k, blk A' = some k → F k) : w.frozen? ⟨b, 1, none⟩ = false ∧ Raw (w.setCell ⟨b, 1, none⟩ (.slice A' o'.length c')) F b R o' g wh D ∧ Only F w (w.setCell ⟨b, 1, none⟩ (.slice A' o'.length c')) := by
  obtain ⟨a1, a2, a3⟩ := rows_apart h1 hA h3
  have on := only_set w ⟨b, 1, none⟩ (.slice A' o'.length c')
  exact ⟨frozen_of_row w b 1 _ _ h1, ⟨A', c', B, d, heap_setCell_same w b 1 _ _ _ h1, hA.only on (fun k hk e => a1 (by rw [hk, e])), h3.only on (fun k hk e => a2 (by rw [hk, e])), h4, hF, h6, fun k hk => Nat.lt_of_lt_of_le (hlt k hk) on.size⟩, on.mono (fun k _ e => by rw [e]; exact h4)⟩
/-- the lengths have become wh' -/
theorem raw_setW {d' : Nat} {wh' : List Nat} {B' : Option Addr} (h1 : w.heap[b]? = some (.cells (rc R A o.length c g B k d D) 41 (0, 0))) (h2 : Mid w A c o) (h4 : F b) (h5 : ∀ k, blk A = some k → F k) (hlt : ∀ k, F k → k < w.heap.size)
    (hB : MidV 3 w B' d' (wh'.map iv)) (hF : ∀ k, blk B' = some k → F k) : w.frozen? ⟨b, 3, none⟩ = false ∧ Raw (w.setCell ⟨b, 3, none⟩ (.slice B' wh'.length d')) F b R o g wh' D ∧ Only F w (w.setCell ⟨b, 3, none⟩ (.slice B' wh'.length d')) := by
  obtain ⟨a1, a2, a3⟩ := rows_apart h1 h2 hB
  have on := only_set w ⟨b, 3, none⟩ (.slice B' wh'.length d')
  exact ⟨frozen_of_row w b 3 _ _ h1, ⟨A, c, B', d', heap_setCell_same w b 3 _ _ _ h1, h2.only on (fun k hk e => a1 (by rw [hk, e])), hB.only on (fun k hk e => a2 (by rw [hk, e])), h4, h5, hF, fun k hk => Nat.lt_of_lt_of_le (hlt k hk) on.size⟩, on.mono (fun k _ e => by rw [e]; exact h4)⟩
/-- a new ring -/
theorem PQ.fresh (w : World) (room : Int) : PQ (w.alloc (.cells (rc (newRng room).R none 0 0 0 none 0 0 0) 41)) (fun k => k = w.heap.size) w.heap.size (newRng room) :=
  ⟨⟨none, 0, none, 0, heap_alloc_new w _, Mid.nil _, MidV.nil _ _, rfl, fun k hk => by simp [blk] at hk, fun k hk => by simp [blk] at hk, fun k hk => by simp; omega⟩, newRng_ok room⟩
end

theorem newRng_R (room : Int) : min (max room 0) 1048576 = ((newRng room).R : Int) := by unfold newRng; show _ = (((min (max room 0) 1048576).toNat : Nat) : Int); omega
theorem new_calls (room : Int) (w : World) : Calls Try.prog 8 #[.int .i64 room] w fun e w' => e = .returned (.pointer (some ⟨w.heap.size, 0, none⟩)) ∧ w.alloc (.cells (rc (newRng room).R none 0 0 0 none 0 0 0) 41) = w' := by
  have h1 := newRng_R room
  generalize (newRng room).R = R at *
  have key : ∀ z : Int, z = (R : Int) → w.alloc (.cells (rc R none 0 0 0 none 0 0 0) 41) = w.alloc (.cells #[.int .i64 z, .slice none 0 0, .int .i64 0, .slice none 0 0, .int .i64 0] 41) := fun z hz => by rw [hz]; rfl
  have K := Lib.hid key
  have H := Lib.hid h1
  clear key h1
  go_enter Try.func8, Try.ntmps8
  go_wp2
  all_goals
    go_ret
    exact ⟨rfl, K.out _ (by have := H.out; omega)⟩
section
variable {w : World} {F : Nat → Prop} {b : Nat} {s : Rng}
theorem len_calls (h : PQ w F b s) : Calls Try.prog 16 #[.pointer (some ⟨b, 0, none⟩)] w fun e w' => e = .returned (.int .i64 (s.o.length : Int)) ∧ w' = w := by
  obtain ⟨⟨A, c, B, d, hb, _⟩, _⟩ := h
  obtain ⟨c0, c1, c2, c3, c4⟩ := rcell hb
  clear hb c0 c2 c3 c4
  generalize s.o.length = m at *
  go_enter Try.func16, Try.ntmps16
  go_wp2
  go_ret
  exact ⟨rfl, rfl⟩
theorem dropped_calls (h : PQ w F b s) : Calls Try.prog 18 #[.pointer (some ⟨b, 0, none⟩)] w fun e w' => e = .returned (.int .i64 (s.D : Int)) ∧ w' = w := by
  obtain ⟨⟨A, c, B, d, hb, _⟩, _⟩ := h
  obtain ⟨c0, c1, c2, c3, c4⟩ := rcell hb
  clear hb c0 c1 c2 c3
  generalize s.D = m at *
  go_enter Try.func18, Try.ntmps18
  go_wp2
  go_ret
  exact ⟨rfl, rfl⟩
end
theorem nilEq (w : World) (l c : Nat) : (binOp .eql 28 (.slice none l c) (.slice none 0 0)).run Try.prog w = .ok (.bool true) w := by kernel_rfl
theorem someEq (w : World) (a : Addr) (l c : Nat) : (binOp .eql 28 (.slice (some a) l c) (.slice none 0 0)).run Try.prog w = .ok (.bool false) w := by kernel_rfl
theorem cloneOwn_calls (A : Option Addr) (c : Nat) (l : List UInt8) (w : World) (h1 : Rd w A l) (hl : l.length ≤ 1048576) :
    Calls Try.prog 21 #[.slice A l.length c] w (GivesOwn l w) := by
  rcases A with _ | ad
  · have hn : l = [] := by
      rcases l with _ | ⟨x, l⟩
      · rfl
      · obtain ⟨b, off, h, _⟩ := h1 (by simp)
        cases h
    subst hn
    have hq := nilEq w 0 c
    go_enter Try.func21, Try.ntmps21
    go_wp2
    go_ret
    exact ⟨none, 0, rfl, Own.nil _ _, Below.refl _ _⟩
  · have hq := someEq w ad l.length c
    have ho := laid_own w [] (by simp)
    obtain ⟨A', c', w', hrun, hown, hbel⟩ := run_app (laid w []) w.heap.size _ _ _ ho (some ad) c l (h1.below (laid_below _ _)) (by simp; omega) (by rw [laid_size]; omega)
    go_enter Try.func21, Try.ntmps21
    go_wp2_with (at_builtin; refine Lib.wpList_append_run _ rfl _ _ _ _ rfl _ _ rfl rfl _ _ (hrun _) ?_)
    go_ret
    exact ⟨A', c', rfl, hown, (laid_below w []).trans hbel⟩
end Go.Proofs.Ytpjhehfhpeclhaa

/- A pipe in memory, of the program or of the reference: its fields and its octets; New, Len, limit, write. No condition. -/
import Derived.Test.YtfneegndlkbgpaaPipIns3
import Derived.BigQuiet
namespace Go.Proofs.Ytfneegndlkbgpaa
open Go.RowKit
set_option linter.unusedVariables false

/-- the cells of a pipe -/
def pc (R : Nat) (A : Option Addr) (m c : Nat) (cut st : Bool) : Array Value := #[.int .i64 (R : Int), .slice A m c, .bool cut, .bool st]
/-- The block b holds a pipe (type t) in the state s; it and its octets lie in F. -/
def PP (w : World) (F : Nat → Prop) (t : TypeId) (b : Nat) (s : Pip) : Prop :=
  ∃ A c, w.heap[b]? = some (.cells (pc s.R A s.l.length c s.cut s.st) t (0, 0)) ∧ Mid w A c s.l ∧ blk A ≠ some b ∧ F b ∧ (∀ k, blk A = some k → F k) ∧ (∀ k, F k → k < w.heap.size) ∧ s.Ok
/-- The pipe has come into the state s; nothing but it has turned. -/
def Turn (F : Nat → Prop) (t : TypeId) (b : Nat) (s : Pip) (w w' : World) : Prop := PP w' (more F w w') t b s ∧ Only F w w'
section
variable {w w' : World} {F G : Nat → Prop} {t : TypeId} {b : Nat} {s : Pip}
theorem PP.ok (h : PP w F t b s) : s.Ok := by obtain ⟨_, _, _, _, _, _, _, _, h⟩ := h; exact h
theorem PP.lt (h : PP w F t b s) : ∀ k, F k → k < w.heap.size := by obtain ⟨_, _, _, _, _, _, _, h, _⟩ := h; exact h
theorem PP.only (h : PP w F t b s) (o : Only G w w') (hd : ∀ k, F k → ¬ G k) : PP w' F t b s := by
  obtain ⟨A, c, h1, h2, h3, h4, h5, h6, h7⟩ := h
  exact ⟨A, c, (o.block b (h6 b h4) (hd b h4)).trans h1, h2.only o (fun k hk => hd k (h5 k hk)), h3, h4, h5, fun k hk => Nat.lt_of_lt_of_le (h6 k hk) o.size, h7⟩
theorem PP.drewN (h : PP w F t b s) (n : Nat) : PP (w.drewN n) F t b s := h
theorem PP.drew (h : PP w F t b s) : PP w.drew F t b s := h
theorem Turn.drewN (h : Turn F t b s w w') (n : Nat) : Turn F t b s w (w'.drewN n) := ⟨h.1, ⟨h.2.os, h.2.tape, h.2.output, h.2.size, h.2.block⟩⟩
theorem Turn.drew (h : Turn F t b s w w') : Turn F t b s w w'.drew := h.drewN 1
theorem more_self (F : Nat → Prop) (w : World) (k : Nat) (h : F k) : more F w w k := .inl h
theorem Turn.refl (h : PP w F t b s) : Turn F t b s w w := by
  obtain ⟨A, c, h1, h2, h3, h4, h5, h6, h7⟩ := h
  exact ⟨⟨A, c, h1, h2, h3, .inl h4, fun k hk => .inl (h5 k hk), fun k hk => hk.elim (h6 k) (fun h => h.2), h7⟩, Only.refl _ _⟩
theorem Turn.from_drewN {n : Nat} (h : Turn F t b s (w.drewN n) w') : Turn F t b s w w' := ⟨h.1, ⟨h.2.os, h.2.tape, h.2.output, h.2.size, h.2.block⟩⟩
theorem pcell {R : Nat} {A : Option Addr} {m c : Nat} {cu sd : Bool} (h : w.heap[b]? = some (.cells (pc R A m c cu sd) t (0, 0))) :
    w.cell? ⟨b, 0, none⟩ = some (.int .i64 (R : Int)) ∧ w.cell? ⟨b, 1, none⟩ = some (.slice A m c) ∧ w.cell? ⟨b, 2, none⟩ = some (.bool cu) ∧ w.cell? ⟨b, 3, none⟩ = some (.bool sd) := by
  refine ⟨?_, ?_, ?_, ?_⟩ <;> rw [cell_of_row w b _ _ _ (0, 0) h] <;> rfl
theorem more_lt (hlt : ∀ k, F k → k < w.heap.size) (hs : w.heap.size ≤ w'.heap.size) : ∀ k, more F w w' k → k < w'.heap.size := fun k hk => hk.elim (fun h => Nat.lt_of_lt_of_le (hlt k h) hs) (fun h => h.2)
/-- the octets have become l': what is behind the store -/
theorem held_turn {R : Nat} {A A' : Option Addr} {m c c' : Nat} {cu sd : Bool} {l' : List UInt8} (hb : w.heap[b]? = some (.cells (pc R A m c cu sd) t (0, 0))) (hne : blk A ≠ some b)
    (hF : F b) (hFA : ∀ k, blk A = some k → F k) (hlt : ∀ k, F k → k < w.heap.size) (on : Only (fun k => blk A = some k) w w') (hm : Mid w' A' c' l') (kin : ∀ k, blk A' = some k → blk A = some k ∨ w.heap.size ≤ k) (ok : Pip.Ok ⟨R, l', cu, sd⟩) :
    w'.cell? ⟨b, 1, none⟩ = some (.slice A m c) ∧ w'.frozen? ⟨b, 1, none⟩ = false ∧ Turn F t b ⟨R, l', cu, sd⟩ w (w'.setCell ⟨b, 1, none⟩ (.slice A' l'.length c')) := by
  have hb' : w'.heap[b]? = some (.cells (pc R A m c cu sd) t (0, 0)) := (on.block b (lt_of_block hb) hne).trans hb
  have hne' : blk A' ≠ some b := by
    intro e
    rcases kin b e with h | h
    · exact hne h
    · have := lt_of_block hb; omega
  have o2 : Only (fun k => k = b) w' (w'.setCell ⟨b, 1, none⟩ (.slice A' l'.length c')) := (Only.refl (fun k => k = b) w').setCell (p := ⟨b, 1, none⟩) (.inl rfl) _
  have oF : Only F w (w'.setCell ⟨b, 1, none⟩ (.slice A' l'.length c')) := (on.mono (fun k _ hk => hFA k hk)).trans o2 (fun k _ e => by rw [e]; exact hF)
  refine ⟨(pcell hb').2.1, frozen_of_row w' b 1 _ _ hb', ⟨A', c', heap_setCell_same w' b 1 _ t _ hb', hm.only o2 (fun k hk e => hne' (by rw [hk, e])), hne', .inl hF, fun k hk => ?_, more_lt hlt oF.size, ok⟩, oF⟩
  rcases kin k hk with h | h
  · exact .inl (hFA k h)
  · exact .inr ⟨h, Nat.lt_of_lt_of_le (hm.blk_lt k hk) o2.size⟩
/-- as held_turn, where the octets lie in F still -/
theorem held_same {R : Nat} {A A' : Option Addr} {m c c' : Nat} {cu sd : Bool} {l' : List UInt8} (hb : w.heap[b]? = some (.cells (pc R A m c cu sd) t (0, 0))) (hne : blk A ≠ some b)
    (hF : F b) (hFA : ∀ k, blk A = some k → F k) (hlt : ∀ k, F k → k < w.heap.size) (hm : Mid w A' c' l') (kin : ∀ k, blk A' = some k → blk A = some k) (ok : Pip.Ok ⟨R, l', cu, sd⟩) :
    PP (w.setCell ⟨b, 1, none⟩ (.slice A' l'.length c')) F t b ⟨R, l', cu, sd⟩ ∧ Only F w (w.setCell ⟨b, 1, none⟩ (.slice A' l'.length c')) := by
  have hne' : blk A' ≠ some b := fun e => hne (kin b e)
  have o2 : Only (fun k => k = b) w (w.setCell ⟨b, 1, none⟩ (.slice A' l'.length c')) := (Only.refl (fun k => k = b) w).setCell (p := ⟨b, 1, none⟩) (.inl rfl) _
  exact ⟨⟨A', c', heap_setCell_same w b 1 _ t _ hb, hm.only o2 (fun k hk e => hne' (by rw [hk, e])), hne', hF, fun k hk => hFA k (kin k hk), fun k hk => Nat.lt_of_lt_of_le (hlt k hk) o2.size, ok⟩, o2.mono (fun k _ e => by rw [e]; exact hF)⟩
theorem Turn.of_same (h : PP w' F t b s) (o : Only F w w') (hlt : ∀ k, F k → k < w.heap.size) : Turn F t b s w w' := by
  obtain ⟨A, c, h1, h2, h3, h4, h5, h6, h7⟩ := h
  exact ⟨⟨A, c, h1, h2, h3, .inl h4, fun k hk => .inl (h5 k hk), more_lt hlt o.size, h7⟩, o⟩
/-- cut and stalled have turned -/
theorem flags_turn (h : PP w F t b s) (cu sd : Bool) : Turn F t b ⟨s.R, s.l, cu, s.st⟩ w (w.setCell ⟨b, 2, none⟩ (.bool cu)) ∧ Turn F t b ⟨s.R, s.l, s.cut, sd⟩ w (w.setCell ⟨b, 3, none⟩ (.bool sd)) ∧ Turn F t b ⟨s.R, s.l, cu, sd⟩ w ((w.setCell ⟨b, 2, none⟩ (.bool cu)).setCell ⟨b, 3, none⟩ (.bool sd)) := by
  obtain ⟨A, c, hb, hm, hne, hF, hFA, hlt, ok⟩ := h
  have o1 : Only (fun k => k = b) w (w.setCell ⟨b, 2, none⟩ (.bool cu)) := (Only.refl (fun k => k = b) w).setCell (p := ⟨b, 2, none⟩) (.inl rfl) _
  have o2 : Only (fun k => k = b) w (w.setCell ⟨b, 3, none⟩ (.bool sd)) := (Only.refl (fun k => k = b) w).setCell (p := ⟨b, 3, none⟩) (.inl rfl) _
  have o3 : Only (fun k => k = b) w ((w.setCell ⟨b, 2, none⟩ (.bool cu)).setCell ⟨b, 3, none⟩ (.bool sd)) := o1.setCell (p := ⟨b, 3, none⟩) (.inl rfl) _
  have hg : ∀ i, i < w.heap.size → i = b → F i := fun i _ e => by rw [e]; exact hF
  have hd : ∀ k, blk A = some k → ¬ k = b := fun k hk e => hne (by rw [hk, e])
  refine ⟨⟨⟨A, c, heap_setCell_same w b 2 _ t _ hb, hm.only o1 hd, hne, .inl hF, fun k hk => .inl (hFA k hk), more_lt hlt o1.size, ok⟩, o1.mono hg⟩, ⟨⟨A, c, heap_setCell_same w b 3 _ t _ hb, hm.only o2 hd, hne, .inl hF, fun k hk => .inl (hFA k hk), more_lt hlt o2.size, ok⟩, o2.mono hg⟩,
    ⟨⟨A, c, heap_setCell_same _ b 3 _ t _ (heap_setCell_same w b 2 _ t _ hb), hm.only o3 hd, hne, .inl hF, fun k hk => .inl (hFA k hk), more_lt hlt o3.size, ok⟩, o3.mono hg⟩⟩
/-- a new pipe -/
theorem PP.fresh (w : World) (t : TypeId) (room : Int) : PP (w.alloc (.cells (pc (newPip room).R none 0 0 false false) t)) (fun k => k = w.heap.size) t w.heap.size (newPip room) :=
  ⟨none, 0, heap_alloc_new w _, Mid.nil _, by simp [blk], rfl, fun k hk => by simp [blk] at hk, fun k hk => by simp; omega, newPip_ok room⟩
end

theorem new_calls (room : Int) (w : World) : Calls Try.prog 8 #[.int .i64 room] w fun e w' => e = .returned (.pointer (some ⟨w.heap.size, 0, none⟩)) ∧ w.alloc (.cells (pc (newPip room).R none 0 0 false false) 42) = w' := by
  have h1 : min (max room 0) 1048576 = ((newPip room).R : Int) := by unfold newPip; show _ = (((min (max room 0) 1048576).toNat : Nat) : Int); omega
  unfold pc
  go_enter Try.func8, Try.ntmps8
  go_wp2
  go_ret
  exact ⟨rfl, rfl⟩
theorem cutR_calls (n a b : Int) (hab : a ≤ b) (w : World) : Calls Try.prog 18 #[.int .i64 n, .int .i64 a, .int .i64 b] w fun e w' => e = .returned (.int .i64 (min (max n a) b)) ∧ w' = w := by
  have hn : n < a ∨ (a ≤ n ∧ b < n) ∨ (a ≤ n ∧ n ≤ b) := by omega
  have hc := Lib.hid (show (n < a → min (max n a) b = a) ∧ (a ≤ n → b < n → min (max n a) b = b) ∧ (a ≤ n → n ≤ b → min (max n a) b = n) by omega)
  rcases hn with hn | ⟨hn, hn'⟩ | ⟨hn, hn'⟩
  all_goals
    go_enter Try.func18, Try.ntmps18
    go_wp2
    go_ret
    refine ⟨?_, rfl⟩
    first
    | (rw [hc.out.1 hn]; rfl)
    | (rw [hc.out.2.1 hn hn']; rfl)
    | (rw [hc.out.2.2 hn hn']; rfl)
theorem newR_calls (room : Int) (w : World) : Calls Try.prog 9 #[.int .i64 room] w fun e w' => e = .returned (.pointer (some ⟨w.heap.size, 0, none⟩)) ∧ w.alloc (.cells (pc (newPip room).R none 0 0 false false) 45) = w' := by
  have h1 : min (max room 0) 1048576 = ((newPip room).R : Int) := by unfold newPip; show _ = (((min (max room 0) 1048576).toNat : Nat) : Int); omega
  have ct := cutR_calls room 0 1048576 (by decide) w
  rw [h1] at ct
  clear h1
  unfold pc
  go_enter Try.func9, Try.ntmps9
  go_wp2_with fail
  refine ct.mono ?_
  rintro e w' ⟨rfl, rfl⟩
  go_wp2
  go_ret
  exact ⟨rfl, rfl⟩
section
variable {w : World} {F : Nat → Prop} {b : Nat} {s : Pip}
theorem len_calls (h : PP w F 42 b s) : Calls Try.prog 16 #[.pointer (some ⟨b, 0, none⟩)] w fun e w' => e = .returned (.int .i64 (s.l.length : Int)) ∧ w' = w := by
  obtain ⟨A, c, hb, _⟩ := h
  obtain ⟨c0, c1, c2, c3⟩ := pcell hb
  clear hb c0 c2 c3
  go_enter Try.func16, Try.ntmps16
  go_wp2
  go_ret
  exact ⟨rfl, rfl⟩
theorem lenR_calls (h : PP w F 45 b s) : Calls Try.prog 17 #[.pointer (some ⟨b, 0, none⟩)] w fun e w' => e = .returned (.int .i64 (s.l.length : Int)) ∧ w' = w := by
  obtain ⟨A, c, hb, _⟩ := h
  obtain ⟨c0, c1, c2, c3⟩ := pcell hb
  clear hb c0 c2 c3
  go_enter Try.func17, Try.ntmps17
  go_wp2
  go_ret
  exact ⟨rfl, rfl⟩
theorem limit_calls {A : Option Addr} {m c : Nat} (c1 : w.cell? ⟨b, 1, none⟩ = some (.slice A m c)) (n : Int) : Calls Try.prog 20 #[.pointer (some ⟨b, 0, none⟩), .int .i64 n] w fun e w' => e = .returned (.int .i64 (lim n m : Int)) ∧ w' = w := by
  have h1 := lim_int n m
  go_enter Try.func20, Try.ntmps20
  go_wp2
  go_ret
  exact ⟨rfl, rfl⟩
end
theorem nilEq (w : World) (l c : Nat) : (binOp .eql 28 (.slice none l c) (.slice none 0 0)).run Try.prog w = .ok (.bool true) w := by kernel_rfl
theorem someEq (w : World) (a : Addr) (l c : Nat) : (binOp .eql 28 (.slice (some a) l c) (.slice none 0 0)).run Try.prog w = .ok (.bool false) w := by kernel_rfl
theorem cloneOwn_calls (A : Option Addr) (c : Nat) (l : List UInt8) (w : World) (h1 : Rd w A l) (hl : l.length ≤ 1048576) :
    Calls Try.prog 19 #[.slice A l.length c] w (GivesOwn l w) := by
  rcases A with _ | ad
  · have hn : l = [] := by
      rcases l with _ | ⟨x, l⟩
      · rfl
      · obtain ⟨b, off, h, _⟩ := h1 (by simp)
        cases h
    subst hn
    have hq := nilEq w 0 c
    go_enter Try.func19, Try.ntmps19
    go_wp2
    go_ret
    exact ⟨none, 0, rfl, Own.nil _ _, Below.refl _ _⟩
  · have hq := someEq w ad l.length c
    have ho := laid_own w [] (by simp)
    obtain ⟨A', c', w', hrun, hown, hbel⟩ := run_app (laid w []) w.heap.size _ _ _ ho (some ad) c l (h1.below (laid_below _ _)) (by simp; omega) (by rw [laid_size]; omega)
    go_enter Try.func19, Try.ntmps19
    go_wp2_with (at_builtin; refine Lib.wpList_append_run _ rfl _ _ _ _ rfl _ _ rfl rfl _ _ (hrun _) ?_)
    go_ret
    exact ⟨A', c', rfl, hown, (laid_below w []).trans hbel⟩
end Go.Proofs.Ytfneegndlkbgpaa

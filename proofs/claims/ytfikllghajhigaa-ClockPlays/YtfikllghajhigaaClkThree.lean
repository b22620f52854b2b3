/- Two clocks of the program, one of the reference and a call side by side. No condition. -/
import Derived.Test.YtfikllghajhigaaClkRefPass
import Derived.Test.YtfikllghajhigaaActRows
import Derived.Deep.RegionHeld
namespace Go.Proofs.Ytfikllghajhigaa
open Go.Proofs Go.RowKit Go.Lib Go.Sort
set_option linter.unusedVariables false

/-- clocks side by side and, behind them, a call -/
def Pl (w v : World) (p : Nat) (F : List (TypeId × Nat × List Nat)) (q : Nat) (a : Act3) : Prop :=
  Fam w v p F ∧ p + F.length ≤ q ∧ v.heap[q]? = some (.cells #[.int .i64 a.1, .int .i64 a.2.1, .int .i64 a.2.2] 30 (0, 0))
section
variable {w v : World} {p i now q : Nat} {F : List (TypeId × Nat × List Nat)} {l : List Nat} {t : TypeId} {a : Act3}
theorem Pl.turn (h : Pl w v p F q a) {v' : World} {now' : Nat} {l' : List Nat} {x : TypeId × Nat × List Nat} (hi : F[i]? = some x) (hc : CS v' t (p + i) now' l') (on : Only (fun k => k = p + i) v v') : Pl w v' p (F.set i (t, now', l')) q a := by
  have hl : i < F.length := (List.getElem?_eq_some_iff.1 hi).1
  have := h.2.1
  exact ⟨h.1.turn hi hc on, by simpa using h.2.1, (on.block q (lt_of_block h.2.2) (by omega)).trans h.2.2⟩
theorem Pl.drewN (h : Pl w v p F q a) (m : Nat) : Pl w (v.drewN m) p F q a := ⟨h.1.drewN m, h.2.1, h.2.2⟩
theorem Pl.cells (h : Pl w v p F q a) : v.cell? ⟨q, 0, none⟩ = some (.int .i64 a.1) ∧ v.cell? ⟨q, 1, none⟩ = some (.int .i64 a.2.1) ∧ v.cell? ⟨q, 2, none⟩ = some (.int .i64 a.2.2) := by
  refine ⟨?_, ?_, ?_⟩ <;> rw [cell_of_row v q _ _ _ (0, 0) h.2.2] <;> rfl
theorem Pl.startP (h : Pl w v p F q a) (hi : F[i]? = some (45, now, l)) (id after : Int) : Calls Try.prog 10 #[.pointer (some ⟨p + i, 0, none⟩), .int .i64 id, .int .i64 after] v fun e v' => e = .returned (.bool (isT id)) ∧ Pl w v' p (F.set i (45, now, startL l id after)) q a := by
  refine (start_calls (h.1.1 i _ hi) id after).mono ?_
  rintro e v' ⟨rfl, hc, on⟩
  exact ⟨rfl, h.turn hi hc on⟩
theorem Pl.startR (h : Pl w v p F q a) (hi : F[i]? = some (47, now, l)) (id after : Int) : Calls Try.prog 11 #[.pointer (some ⟨p + i, 0, none⟩), .int .i64 id, .int .i64 after] v fun e v' => e = .returned (.bool (isT id)) ∧ Pl w v' p (F.set i (47, now, startL l id after)) q a := by
  refine (refStart_calls (h.1.1 i _ hi) id after).mono ?_
  rintro e v' ⟨rfl, hc, on⟩
  exact ⟨rfl, h.turn hi hc on⟩
theorem Pl.stopP (h : Pl w v p F q a) (hi : F[i]? = some (45, now, l)) (id : Int) : Calls Try.prog 12 #[.pointer (some ⟨p + i, 0, none⟩), .int .i64 id] v fun e v' => e = .returned (.bool (runs l id)) ∧ Pl w v' p (F.set i (45, now, stopL l id)) q a := by
  refine (stop_calls (h.1.1 i _ hi) id).mono ?_
  rintro e v' ⟨rfl, hc, on⟩
  exact ⟨rfl, h.turn hi hc on⟩
theorem Pl.stopR (h : Pl w v p F q a) (hi : F[i]? = some (47, now, l)) (id : Int) : Calls Try.prog 13 #[.pointer (some ⟨p + i, 0, none⟩), .int .i64 id] v fun e v' => e = .returned (.bool (runs l id)) ∧ Pl w v' p (F.set i (47, now, stopL l id)) q a := by
  refine (refStop_calls (h.1.1 i _ hi) id).mono ?_
  rintro e v' ⟨rfl, hc, on⟩
  exact ⟨rfl, h.turn hi hc on⟩
theorem Pl.passP (h : Pl w v p F q a) (hi : F[i]? = some (45, now, l)) (n : Int) : Calls Try.prog 15 #[.pointer (some ⟨p + i, 0, none⟩), .int .i64 n] v fun e v' => ∃ A c L, e = .returned (.slice A L.length c) ∧ Exp l (cut 0 n) L ∧ Res v' (p + F.length) A L ∧ Keeps (p + F.length) v v' ∧ Pl w v' p (F.set i (45, later now (cut 0 n), l.map (· - cut 0 n))) q a := by
  have hl : i < F.length := (List.getElem?_eq_some_iff.1 hi).1
  refine (pass_calls (h.1.1 i _ hi) n).mono ?_
  rintro e v' ⟨A, c, L, rfl, hE, hR, hA, hc, on⟩
  exact ⟨A, c, L, rfl, hE, ⟨hR, fun k hk => by have := hA k hk; have := h.1.2.2.2; omega⟩, Keeps.only on (fun k hk => by omega), h.turn hi hc on⟩
theorem Pl.passR (h : Pl w v p F q a) (hi : F[i]? = some (47, now, l)) (n : Int) : Calls Try.prog 16 #[.pointer (some ⟨p + i, 0, none⟩), .int .i64 n] v fun e v' => ∃ A c L, e = .returned (.slice A L.length c) ∧ Exp l (cut 0 n) L ∧ Res v' (p + F.length) A L ∧ Keeps (p + F.length) v v' ∧ Pl w v' p (F.set i (47, later now (cut 0 n), l.map (· - cut 0 n))) q a := by
  have hl : i < F.length := (List.getElem?_eq_some_iff.1 hi).1
  refine (refPass_calls (h.1.1 i _ hi) n).mono ?_
  rintro e v' ⟨A, c, L, rfl, hE, hR, hA, hc, on⟩
  exact ⟨A, c, L, rfl, hE, ⟨hR, fun k hk => by have := hA k hk; have := h.1.2.2.2; omega⟩, Keeps.only on (fun k hk => by omega), h.turn hi hc on⟩
end
theorem Fam.start3 {w W : World} (hb : Below w.heap.size w W) {n1 n2 n3 : Nat} (h1 : n1 < 4294967296) (h2 : n2 < 4294967296) (h3 : n3 < 4294967296) (t1 t2 t3 : TypeId) :
    Fam w (((W.alloc (.cells (cc n1 nought) t1)).alloc (.cells (cc n2 nought) t2)).alloc (.cells (cc n3 nought) t3)) W.heap.size [(t1, n1, nought), (t2, n2, nought), (t3, n3, nought)] := by
  have e1 : ∀ (V : World) (o : Obj), (V.alloc o).heap.size = V.heap.size + 1 := fun V o => by simp
  have b1 := fun (V : World) (o : Obj) => (Below.refl V.heap.size V).alloc (Nat.le_refl _) o
  have h0 := Fam.start2 hb h1 h2 t1 t2
  refine ⟨fun i x hx => ?_, h0.2.1.alloc h0.2.1.size _, hb.size, by rw [e1, e1, e1]; exact Nat.le_refl _⟩
  match i with
  | 0 => exact (h0.1 0 x hx).only (Only.of_below (fun _ => False) (b1 _ _)) (fun h => h)
  | 1 => exact (h0.1 1 x hx).only (Only.of_below (fun _ => False) (b1 _ _)) (fun h => h)
  | 2 =>
    injection hx with hx
    subst hx
    have := CS.fresh ((W.alloc (.cells (cc n1 nought) t1)).alloc (.cells (cc n2 nought) t2)) t3 h3
    rw [e1, e1] at this
    exact this
  | i + 3 => cases hx
/-- a clock of the program, another one, one of the reference, and a call -/
def Thr (w v : World) (p n1 : Nat) (l1 : List Nat) (n2 : Nat) (l2 : List Nat) (n3 : Nat) (l3 : List Nat) (q : Nat) (a : Act3) : Prop :=
  Pl w v p [(45, n1, l1), (45, n2, l2), (47, n3, l3)] q a
section
variable {w v : World} {p n1 n2 n3 q : Nat} {l1 l2 l3 : List Nat} {a : Act3}
theorem Thr.bel (h : Thr w v p n1 l1 n2 l2 n3 l3 q a) : Below w.heap.size w v := h.1.bel
theorem Thr.drewN (h : Thr w v p n1 l1 n2 l2 n3 l3 q a) (m : Nat) : Thr w (v.drewN m) p n1 l1 n2 l2 n3 l3 q a := Pl.drewN h m
theorem Thr.drew (h : Thr w v p n1 l1 n2 l2 n3 l3 q a) : Thr w v.drew p n1 l1 n2 l2 n3 l3 q a := Pl.drewN h 1
theorem Thr.startS (h : Thr w v p n1 l1 n2 l2 n3 l3 q a) (id after : Int) : Calls Try.prog 10 #[.pointer (some ⟨p, 0, none⟩), .int .i64 id, .int .i64 after] v fun e v' => e = .returned (.bool (isT id)) ∧ Thr w v' p n1 (startL l1 id after) n2 l2 n3 l3 q a := Pl.startP (i := 0) h rfl id after
theorem Thr.startO (h : Thr w v p n1 l1 n2 l2 n3 l3 q a) (id after : Int) : Calls Try.prog 10 #[.pointer (some ⟨p + 1, 0, none⟩), .int .i64 id, .int .i64 after] v fun e v' => e = .returned (.bool (isT id)) ∧ Thr w v' p n1 l1 n2 (startL l2 id after) n3 l3 q a := Pl.startP (i := 1) h rfl id after
theorem Thr.startR (h : Thr w v p n1 l1 n2 l2 n3 l3 q a) (id after : Int) : Calls Try.prog 11 #[.pointer (some ⟨p + 2, 0, none⟩), .int .i64 id, .int .i64 after] v fun e v' => e = .returned (.bool (isT id)) ∧ Thr w v' p n1 l1 n2 l2 n3 (startL l3 id after) q a := Pl.startR (i := 2) h rfl id after
theorem Thr.stopS (h : Thr w v p n1 l1 n2 l2 n3 l3 q a) (id : Int) : Calls Try.prog 12 #[.pointer (some ⟨p, 0, none⟩), .int .i64 id] v fun e v' => e = .returned (.bool (runs l1 id)) ∧ Thr w v' p n1 (stopL l1 id) n2 l2 n3 l3 q a := Pl.stopP (i := 0) h rfl id
theorem Thr.stopR (h : Thr w v p n1 l1 n2 l2 n3 l3 q a) (id : Int) : Calls Try.prog 13 #[.pointer (some ⟨p + 2, 0, none⟩), .int .i64 id] v fun e v' => e = .returned (.bool (runs l3 id)) ∧ Thr w v' p n1 l1 n2 l2 n3 (stopL l3 id) q a := Pl.stopR (i := 2) h rfl id
theorem Thr.passS (h : Thr w v p n1 l1 n2 l2 n3 l3 q a) (n : Int) : Calls Try.prog 15 #[.pointer (some ⟨p, 0, none⟩), .int .i64 n] v fun e v' => ∃ A c L, e = .returned (.slice A L.length c) ∧ Exp l1 (cut 0 n) L ∧ Res v' (p + 3) A L ∧ Keeps (p + 3) v v' ∧ Thr w v' p (later n1 (cut 0 n)) (l1.map (· - cut 0 n)) n2 l2 n3 l3 q a := Pl.passP (i := 0) h rfl n
theorem Thr.passR (h : Thr w v p n1 l1 n2 l2 n3 l3 q a) (n : Int) : Calls Try.prog 16 #[.pointer (some ⟨p + 2, 0, none⟩), .int .i64 n] v fun e v' => ∃ A c L, e = .returned (.slice A L.length c) ∧ Exp l3 (cut 0 n) L ∧ Res v' (p + 3) A L ∧ Keeps (p + 3) v v' ∧ Thr w v' p n1 l1 n2 l2 (later n3 (cut 0 n)) (l3.map (· - cut 0 n)) q a := Pl.passR (i := 2) h rfl n
theorem Thr.nowS (h : Thr w v p n1 l1 n2 l2 n3 l3 q a) : Calls Try.prog 19 #[.pointer (some ⟨p, 0, none⟩)] v fun e v' => e = .returned (.int .u32 (n1 : Int)) ∧ v' = v := now_calls (h.1.1 0 _ rfl)
theorem Thr.nowR (h : Thr w v p n1 l1 n2 l2 n3 l3 q a) : Calls Try.prog 20 #[.pointer (some ⟨p + 2, 0, none⟩)] v fun e v' => e = .returned (.int .u32 (n3 : Int)) ∧ v' = v := refNow_calls (h.1.1 2 _ rfl)
theorem Thr.leftS (h : Thr w v p n1 l1 n2 l2 n3 l3 q a) (id : Int) : Calls Try.prog 17 #[.pointer (some ⟨p, 0, none⟩), .int .i64 id] v fun e v' => e = .returned (.tuple #[.int .i64 (leftL l1 id), .bool (runs l1 id)]) ∧ v' = v := left_calls (h.1.1 0 _ rfl) id
theorem Thr.leftR (h : Thr w v p n1 l1 n2 l2 n3 l3 q a) (id : Int) : Calls Try.prog 18 #[.pointer (some ⟨p + 2, 0, none⟩), .int .i64 id] v fun e v' => e = .returned (.tuple #[.int .i64 (leftL l3 id), .bool (runs l3 id)]) ∧ v' = v := refLeft_calls (h.1.1 2 _ rfl) id
end
/-- the three clocks without a call -/
def Thr0 (w v : World) (p n1 : Nat) (l1 : List Nat) (n2 : Nat) (l2 : List Nat) (n3 : Nat) (l3 : List Nat) : Prop :=
  Fam w v p [(45, n1, l1), (45, n2, l2), (47, n3, l3)]
theorem Thr0.call {w v : World} {p n1 n2 n3 : Nat} {l1 l2 l3 : List Nat} (h : Thr0 w v p n1 l1 n2 l2 n3 l3) (a : Act3) :
    Thr w (v.alloc (.cells #[.int .i64 a.1, .int .i64 a.2.1, .int .i64 a.2.2] 30)) p n1 l1 n2 l2 n3 l3 v.heap.size a := by
  have b1 : Below v.heap.size v (v.alloc (.cells #[.int .i64 a.1, .int .i64 a.2.1, .int .i64 a.2.2] 30)) := (Below.refl v.heap.size v).alloc (Nat.le_refl _) _
  refine ⟨⟨fun i x hx => (h.1 i x hx).only (Only.of_below (fun _ => False) b1) (fun h => h), h.2.1.alloc h.2.1.size _, h.2.2.1, Nat.le_trans h.2.2.2 b1.size⟩, h.2.2.2, heap_alloc_new v _⟩
theorem Thr.zero {w v : World} {p n1 n2 n3 q : Nat} {l1 l2 l3 : List Nat} {a : Act3} (h : Thr w v p n1 l1 n2 l2 n3 l3 q a) : Thr0 w v p n1 l1 n2 l2 n3 l3 := h.1
end Go.Proofs.Ytfikllghajhigaa

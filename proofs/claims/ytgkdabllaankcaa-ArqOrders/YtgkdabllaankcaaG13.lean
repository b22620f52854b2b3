/- Package arq walked, part 13 of 15 (merged texts: PairOne, PairCollect). No condition. -/
import Derived.Test.YtgkdabllaankcaaG12
import Derived.Test.YtgkdabllaankcaaG4
/- Two ends of a session: one end's call, Recv and Inds of one, a row that grows, the first that is under way. No condition. -/
namespace Go.Proofs.Ytgkdabllaankcaa
open Go.RowKit
set_option linter.unusedVariables false

section
variable {w v v' : World} {H G : Nat → Prop} {P : Nat} {b : Bool → Nat} {p : Pr} {t : Nat → Lb} {i : Bool} {s s' : Aq} {c : Nat}
theorem AqOne.of_turn {F : Nat → Prop} (h2 : ∀ k, F k → w.heap.size ≤ k ∧ ¬ H k) (h3 : Below w.heap.size w v) (h4 : ∀ k, H k → k < v.heap.size) (T : AqTurn F c s' v v') : AqOne H w v' c s' ∧ Kept H v v' := by
  have hs := T.on.size
  have hvs := h3.size
  refine ⟨⟨more F v v', T.st, fun k hk => ?_, h3.trans (T.on.below (fun k hk => (h2 k hk).1) hvs), fun k hk => Nat.lt_of_lt_of_le (h4 k hk) hs⟩, F, T.on, fun k hk => (h2 k hk).2, hs⟩
  rcases hk with hk | ⟨hk, _⟩
  · exact h2 k hk
  · exact ⟨Nat.le_trans hvs hk, fun hH => by have := h4 k hH; omega⟩
/-- Recv -/
theorem AqOne.recv (h : AqOne H w v c s) : Calls Try.prog 30 #[.pointer (some ⟨c, 0, none⟩)] v fun e v' => ∃ A d, e = .returned (.tuple #[.slice A s.od.takeX.length d, .bool s.od.takeB]) ∧ Rd v' A s.od.takeX ∧ AqOne H w v' c s.recv ∧ Kept H v v' := by
  obtain ⟨F, h1, h2, h3, h4⟩ := h
  refine (aqRecv_calls h1).mono ?_
  rintro e v' ⟨A, d, rfl, rd, T, -⟩
  obtain ⟨o, k⟩ := AqOne.of_turn h2 h3 h4 T
  exact ⟨A, d, rfl, rd, o, k⟩
/-- Inds: the row is the law's own from here on -/
theorem AqOne.inds (h : AqOne H w v c s) : Calls Try.prog 31 #[.pointer (some ⟨c, 0, none⟩)] v fun e v' => ∃ A d G, e = .returned (.slice A s.is.length d) ∧ NumP v' G A d s.is ∧ AqOne (fun k => H k ∨ G k) w v' c s.inds ∧ Kept H v v' ∧ (∀ k, G k → w.heap.size ≤ k ∧ ¬ H k) := by
  obtain ⟨F, h1, h2, h3, h4⟩ := h
  refine (aqInds_calls h1).mono ?_
  rintro e v' ⟨A, d, G, F', rfl, row, hp, hG, hF', hd, on⟩
  have hs := on.size
  exact ⟨A, d, G, rfl, row, ⟨F', hp, fun k hk => ⟨(h2 k (hF' k hk)).1, fun h => h.elim (h2 k (hF' k hk)).2 (hd k hk)⟩, h3.trans (on.below (fun k hk => (h2 k hk).1) h3.size), fun k hk => hk.elim (fun h => Nat.lt_of_lt_of_le (h4 k h) hs) (fun h => Nat.lt_of_lt_of_le (h1.lt k (hG k h)) hs)⟩, ⟨F, on, fun k hk => (h2 k hk).2, hs⟩, fun k hk => h2 k (hG k hk)⟩
/-- less is kept -/
theorem AqOne.less (h : AqOne H w v c s) (hG : ∀ k, G k → H k) : AqOne G w v c s := by
  obtain ⟨F, h1, h2, h3, h4⟩ := h
  exact ⟨F, h1, fun k hk => ⟨(h2 k hk).1, fun h => (h2 k hk).2 (hG k h)⟩, h3, fun k hk => h4 k (hG k hk)⟩
theorem Kept.less (h : Kept H v v') (hG : ∀ k, G k → H k) : Kept G v v' := by
  obtain ⟨F, h1, h2, h3⟩ := h
  exact ⟨F, h1, fun k hk h => h2 k hk (hG k h), h3⟩
theorem Kept.refl : Kept H v v := ⟨fun _ => False, Only.refl _ _, fun _ h => h.elim, Nat.le_refl _⟩
theorem Kept.drewN (n : Nat) : Kept H v (v.drewN n) := ⟨fun _ => False, ⟨rfl, rfl, rfl, Nat.le_refl _, fun _ _ _ => rfl⟩, fun _ h => h.elim, Nat.le_refl _⟩
theorem Kept.trans {v2 : World} (h : Kept H v v') (h' : Kept H v' v2) : Kept H v v2 := by
  obtain ⟨F, h1, h2, h3⟩ := h
  obtain ⟨F', i1, i2, i3⟩ := h'
  exact ⟨fun k => F k ∨ F' k, (h1.mono (fun _ _ h => .inl h)).trans i1 (fun _ _ h => .inr h), fun k hk => hk.elim (h2 k) (i2 k), Nat.le_trans h3 i3⟩
/-! the pair -/
theorem PrOne.bel (h : PrOne H w v P b p) : Below w.heap.size w v := by obtain ⟨t, _, _, h, _⟩ := h; exact h
theorem PrOne.ok (h : PrOne H w v P b p) (i : Bool) : (p.a i).Ok := by obtain ⟨t, h, _⟩ := h; exact (h.ends i).ok
theorem PrOne.less (h : PrOne H w v P b p) (hG : ∀ k, G k → H k) : PrOne G w v P b p := by
  obtain ⟨t, h1, h2, h3, h4⟩ := h
  exact ⟨t, h1, fun k hk => ⟨(h2 k hk).1, fun h => (h2 k hk).2 (hG k h)⟩, h3, fun k hk => h4 k (hG k hk)⟩
theorem PrOne.beside (h : PrOne H w v P b p) (hb : Below v.heap.size v v') : PrOne H w v' P b p := by
  obtain ⟨t, h1, h2, h3, h4⟩ := h
  exact ⟨t, h1.only (G := fun _ => False) (Only.of_below _ hb) (fun _ _ h => h), h2, h3.trans (hb.mono h3.size), fun k hk => Nat.lt_of_lt_of_le (h4 k hk) hb.size⟩
theorem PrOne.drewN (h : PrOne H w v P b p) (n : Nat) : PrOne H w (v.drewN n) P b p := h.beside ⟨rfl, rfl, rfl, Nat.le_refl _, fun _ _ => rfl⟩
theorem PrOne.ptr (h : PrOne H w v P b p) (i : Bool) : v.cell? ⟨P, i.toNat, none⟩ = some (.pointer (some ⟨b i, 0, none⟩)) := by
  obtain ⟨t, h, _⟩ := h
  obtain ⟨q, hq⟩ := h.cell
  rw [cell_of_row v P _ _ _ (0, 0) hq]
  cases i <;> rfl
theorem PrOne.cWay (h : PrOne H w v P b p) (i : Bool) : ∃ A c, v.cell? ⟨P, 2 + i.toNat, none⟩ = some (.slice A (p.way i).length c) := by
  obtain ⟨t, h, _⟩ := h
  obtain ⟨q, hq⟩ := h.cell
  refine ⟨q.A i, q.c i, ?_⟩
  rw [cell_of_row v P _ _ _ (0, 0) hq]
  cases i <;> rfl
theorem PrOne.cHeard (h : PrOne H w v P b p) (i : Bool) : ∃ A c, v.cell? ⟨P, 4 + i.toNat, none⟩ = some (.slice A (p.heard i).length c) := by
  obtain ⟨t, h, _⟩ := h
  obtain ⟨q, hq⟩ := h.cell
  refine ⟨q.B i, q.d i, ?_⟩
  rw [cell_of_row v P _ _ _ (0, 0) hq]
  cases i <;> rfl
theorem PrOne.cSaid (h : PrOne H w v P b p) (i : Bool) : ∃ A c, v.cell? ⟨P, 6 + i.toNat, none⟩ = some (.slice A (p.said i).length c) := by
  obtain ⟨t, h, _⟩ := h
  obtain ⟨q, hq⟩ := h.cell
  refine ⟨q.C i, q.e i, ?_⟩
  rw [cell_of_row v P _ _ _ (0, 0) hq]
  cases i <;> rfl
theorem PrOne.cDowns (h : PrOne H w v P b p) : v.cell? ⟨P, 8, none⟩ = some (.int .i64 (p.downs : Int)) := by
  obtain ⟨t, h, _⟩ := h
  obtain ⟨q, hq⟩ := h.cell
  rw [cell_of_row v P _ _ _ (0, 0) hq]
  rfl
theorem PrOne.z (h : PrOne H w v P b p) (j : Nat) : v.frozen? ⟨P, j, none⟩ = false := by
  obtain ⟨t, h, _⟩ := h
  obtain ⟨q, hq⟩ := h.cell
  exact frozen_of_row v P j _ _ hq
theorem PrOne.memP (h : PrOne H w v P b p) : P < v.heap.size ∧ w.heap.size ≤ P := by obtain ⟨t, h, h2, _⟩ := h; exact ⟨h.memP, (h2 P (by rw [h.me]; simp)).1⟩
theorem relabel_id {L : Lb} (t : Nat → Lb) : relabel t L (fun k => t k = L) = t := by
  funext k
  unfold relabel
  split
  · next h => exact h.symm
  · rfl
/-- the pair with its marks told -/
def PrOneT (t : Nat → Lb) (H : Nat → Prop) (w v : World) (P : Nat) (b : Bool → Nat) (p : Pr) : Prop := PrP v t P b p ∧ (∀ k, t k ≠ .no → w.heap.size ≤ k ∧ ¬ H k) ∧ Below w.heap.size w v ∧ ∀ k, H k → k < v.heap.size
/-- the other parts, and what the law keeps -/
def Oth (t : Nat → Lb) (H : Nat → Prop) (i : Bool) : Nat → Prop := fun k => H k ∨ (t k ≠ .no ∧ t k ≠ .en i)
/-- the pair's own cells are what they were -/
def SameP (P : Nat) (v v' : World) : Prop := ∀ j, v'.cell? ⟨P, j, none⟩ = v.cell? ⟨P, j, none⟩
theorem SameP.refl : SameP P v v := fun _ => rfl
theorem SameP.trans {v2 : World} (h : SameP P v v') (h' : SameP P v' v2) : SameP P v v2 := fun j => (h' j).trans (h j)
/-- what a call of one end makes of the pair; K: what the law has more to keep then -/
theorem PrOneT.one (h : PrOneT t H w v P b p) (i : Bool) : AqOne (Oth t H i) w v (b i) (p.a i) ∧
    ∀ (K : Nat → Prop) v' s', AqOne (fun k => Oth t H i k ∨ K k) w v' (b i) s' → Kept (Oth t H i) v v' → (∀ k, K k → w.heap.size ≤ k ∧ ¬ Oth t H i k) → PrOne (fun k => H k ∨ K k) w v' P b (p.setA i s') ∧ Kept H v v' ∧ SameP P v v' := by
  obtain ⟨h1, h2, h3, h4⟩ := h
  refine ⟨⟨_, h1.ends i, fun k hk => ?_, h3, fun k hk => ?_⟩, ?_⟩
  · have hk' : t k = .en i := hk
    have hn := h2 k (by rw [hk']; simp)
    exact ⟨hn.1, fun e => e.elim hn.2 (fun e => e.2 hk')⟩
  · exact hk.elim (h4 k) (fun e => h1.lt k e.1)
  · rintro K v' s' ⟨F', g1, g2, g3, g4⟩ ⟨F, k1, k2, k3⟩ hK
    have cl : ∀ k, ¬ Oth t H i k → t k = .no ∨ t k = .en i := fun k hk => Classical.byContradiction fun hn => hk (.inr ⟨fun e => hn (.inl e), fun e => hn (.inr e)⟩)
    have T := h1.turnA (i := i) (s := s') k1 (fun k hk => cl k (k2 k hk)) g1 (fun k hk => cl k (fun e => (g2 k hk).2 (.inl e)))
    refine ⟨⟨_, T, fun k hk => ?_, g3, fun k hk => g4 k (hk.elim (fun e => .inl (.inl e)) .inr)⟩, ⟨F, k1, fun k hk e => k2 k hk (.inl e), k3⟩, fun j => World.cell?_of_block (k1.block P h1.memP (fun e => k2 P e (.inr ⟨by rw [h1.me]; simp, by rw [h1.me]; simp⟩)))⟩
    have hk0 := hk
    rcases relabel_no hk with hk | hk
    · exact ⟨(g2 k hk).1, fun e => (g2 k hk).2 (e.elim (fun e => .inl (.inl e)) .inr)⟩
    · refine ⟨(h2 k hk).1, fun e => e.elim (h2 k hk).2 (fun e => ?_)⟩
      rcases cl k (hK k e).2 with h0 | h0
      · exact hk h0
      · have hF : ¬ F' k := fun hf => (g2 k hf).2 (.inr e)
        unfold relabel at hk0
        rw [if_neg hF, if_pos h0] at hk0
        exact hk0 rfl
theorem PrOneT.one0 (h : PrOneT t H w v P b p) (i : Bool) {v' : World} {s' : Aq} (ho : AqOne (Oth t H i) w v' (b i) s') (hk : Kept (Oth t H i) v v') : PrOne H w v' P b (p.setA i s') ∧ Kept H v v' ∧ SameP P v v' := by
  have hh : (fun k => Oth t H i k ∨ False) = Oth t H i := funext fun k => propext ⟨fun e => e.elim id False.elim, .inl⟩
  have := (h.one i).2 (fun _ => False) v' s' (by rw [hh]; exact ho) hk (fun _ e => e.elim)
  rw [show (fun k => H k ∨ False) = H from funext fun k => propext ⟨fun e => e.elim id False.elim, .inl⟩] at this
  exact this
/-- a call of one end by its contract -/
theorem PrOne.act {f : Nat} {args : Array Value} {r : Ending} (h : PrOne H w v P b p) (i : Bool) (hc : ∀ H', AqOne H' w v (b i) (p.a i) → (∀ k, H k → H' k) → Calls Try.prog f args v fun e v' => e = r ∧ AqOne H' w v' (b i) s' ∧ Kept H' v v') :
    Calls Try.prog f args v fun e v' => e = r ∧ PrOne H w v' P b (p.setA i s') ∧ Kept H v v' ∧ SameP P v v' := by
  obtain ⟨t, h⟩ := h
  have h : PrOneT t H w v P b p := h
  refine (hc _ (h.one i).1 (fun _ e => .inl e)).mono ?_
  rintro e v' ⟨rfl, o', k⟩
  exact ⟨rfl, h.one0 i o' k⟩
theorem PrOne.output (h : PrOne H w v P b p) (i : Bool) : Calls Try.prog 24 #[.pointer (some ⟨b i, 0, none⟩)] v fun e v' => ∃ A c G, e = .returned (.slice A (p.a i).os.length c) ∧ RowP v' G A c (p.a i).os ∧ PrOne (fun k => H k ∨ G k) w v' P b (p.setA i (p.a i).output) ∧ Kept H v v' ∧ SameP P v v' ∧ (∀ k, G k → w.heap.size ≤ k ∧ ¬ H k) := by
  obtain ⟨t, h⟩ := h
  have h : PrOneT t H w v P b p := h
  refine (h.one i).1.output.mono ?_
  rintro e v' ⟨A, c, G, rfl, row, o', k, hG⟩
  obtain ⟨h', k', sp⟩ := (h.one i).2 G v' _ o' k hG
  exact ⟨A, c, G, rfl, row, h', k', sp, fun k hk => ⟨(hG k hk).1, fun e => (hG k hk).2 (.inl e)⟩⟩
theorem PrOne.inds (h : PrOne H w v P b p) (i : Bool) : Calls Try.prog 31 #[.pointer (some ⟨b i, 0, none⟩)] v fun e v' => ∃ A c G, e = .returned (.slice A (p.a i).is.length c) ∧ NumP v' G A c (p.a i).is ∧ PrOne (fun k => H k ∨ G k) w v' P b (p.setA i (p.a i).inds) ∧ Kept H v v' ∧ SameP P v v' ∧ (∀ k, G k → w.heap.size ≤ k ∧ ¬ H k) := by
  obtain ⟨t, h⟩ := h
  have h : PrOneT t H w v P b p := h
  refine (h.one i).1.inds.mono ?_
  rintro e v' ⟨A, c, G, rfl, row, o', k, hG⟩
  obtain ⟨h', k', sp⟩ := (h.one i).2 G v' _ o' k hG
  exact ⟨A, c, G, rfl, row, h', k', sp, fun k hk => ⟨(hG k hk).1, fun e => (hG k hk).2 (.inl e)⟩⟩
theorem PrOne.recv (h : PrOne H w v P b p) (i : Bool) : Calls Try.prog 30 #[.pointer (some ⟨b i, 0, none⟩)] v fun e v' => ∃ A d, e = .returned (.tuple #[.slice A (p.a i).od.takeX.length d, .bool (p.a i).od.takeB]) ∧ Rd v' A (p.a i).od.takeX ∧ PrOne H w v' P b (p.setA i (p.a i).recv) ∧ Kept H v v' ∧ SameP P v v' := by
  obtain ⟨t, h⟩ := h
  have h : PrOneT t H w v P b p := h
  refine (h.one i).1.recv.mono ?_
  rintro e v' ⟨A, d, rfl, rd, o', k⟩
  exact ⟨A, d, rfl, rd, h.one0 i o' k⟩
theorem Kept.num {A : Option Addr} {c : Nat} {L : List Nat} (k : Kept H v v') (h : NumP v H A c L) : NumP v' H A c L := by
  obtain ⟨F, on, hd, _⟩ := k
  exact ⟨h.1.only on (fun k hk hF => hd k hF (h.2 k hk)), h.2⟩
theorem NumP.wide {A : Option Addr} {c : Nat} {L : List Nat} (h : NumP v G A c L) (hG : ∀ k, G k → H k) : NumP v H A c L := ⟨h.1, fun k hk => hG k (h.2 k hk)⟩
theorem NumP.at_ {A : Option Addr} {c : Nat} {L : List Nat} (h : NumP v G A c L) {j : Nat} (hj : j < L.length) : ∃ g off, A = some ⟨g, off, none⟩ ∧ v.cell? ⟨g, off + j, none⟩ = some (.int .i64 (L.getD j 0 : Nat)) := by
  obtain ⟨g, off, e, hc⟩ := h.1.at_ (j := j) (v := nvi (L.getD j 0)) (by simp [hj])
  exact ⟨g, off, e, hc⟩
/-! a way that grows -/
theorem run_append_none {e sl : TypeId} {z : Value} {bytes : Nat} (T : ET sl e z bytes) {A : Option Addr} {c : Nat} {vs : List Value} (h : MidV e v A c vs) (B : Option Addr) (d : Nat) (ty : TypeId) :
    (Builtin.append_ #[sl, sl] ty #[.slice A vs.length c, .slice B 0 d]).run Try.prog v = .ok (.slice A vs.length c) v := by
  obtain ⟨i0, hi, hz0, hz1, hz2⟩ := info_parts T.info
  have hc := h.1
  rcases h.2.2 with ⟨rfl, h0⟩ | ⟨g, off, cur, rfl, _⟩
  · have : vs.length = 0 := by omega
    rw [this, h0]
    cases B <;> simp [Builtin.append_, run_underlying T.und, sizeOf, typeInfo, hi, Builtin.lenOf, Builtin.firstCells, loadCells, loadCellsFrom]
  · cases B <;> simp [Builtin.append_, run_underlying T.und, sizeOf, typeInfo, hi, Builtin.lenOf, Builtin.firstCells, hc, storeCells, loadCells, loadCellsFrom]
theorem Pcs.cat : ∀ {vs us : List Value} {l m : List (List UInt8)}, Pcs v G vs l → Pcs v G us m → Pcs v G (vs ++ us) (l ++ m)
  | [], _, [], _, _, h => h
  | _ :: _, _, _ :: _, _, h1, h2 => ⟨h1.1, Pcs.cat h1.2 h2⟩
  | [], _, _ :: _, _, h, _ => h.elim
  | _ :: _, _, [], _, h, _ => h.elim
theorem Pcs.one_cell : ∀ {vs : List Value} {l : List (List UInt8)}, Pcs v G vs l → ∀ u ∈ vs, u.oneCell' = true
  | [], [], _, u, hu => by cases hu
  | x :: vs, _ :: _, h, u, hu => by
    rcases List.mem_cons.1 hu with rfl | hu
    · obtain ⟨B, d, rfl, _⟩ := h.1
      rfl
    · exact Pcs.one_cell h.2 u hu
  | [], _ :: _, h, _, _ => h.elim
  | _ :: _, [], h, _, _ => h.elim
theorem RowP.cat {F : Nat → Prop} {A B : Option Addr} {c d : Nat} {l m : List (List UInt8)} (h : RowP v F A c l) (h' : RowP v G B d m) (hb : l.length + m.length ≤ 2000000) :
    ∃ A' c' v', (∀ ty, (Builtin.append_ #[31, 31] ty #[.slice A l.length c, .slice B m.length d]).run Try.prog v = .ok (.slice A' (l.length + m.length) c') v') ∧ Only F v v' ∧ RowP v' (fun k => F k ∨ G k ∨ (v.heap.size ≤ k ∧ k < v'.heap.size)) A' c' (l ++ m) := by
  obtain ⟨vs, h1, h2, h3⟩ := h
  obtain ⟨us, i1, i2, i3⟩ := h'
  have hl := h2.len
  have hm := i2.len
  rcases Nat.eq_zero_or_pos m.length with hz | hz
  · have hm0 : m = [] := List.eq_nil_of_length_eq_zero hz
    subst hm0
    have R := run_append_none etRow h1 B d
    refine ⟨A, c, v, fun ty => ?_, Only.refl _ _, vs, h1, by rw [List.append_nil]; exact Pcs.only (G := fun _ => False) (Only.refl _ _) (fun _ _ _ h => h) (fun _ h => .inl h) h2, fun k hk => .inl (h3 k hk)⟩
    have := R ty
    rw [hl] at this
    exact this
  · obtain ⟨g, off, rfl, _⟩ := i1.at_ (j := 0) (v := us[0]'(by omega)) (by simp)
    obtain ⟨A', c', v', r, mv, on, kin⟩ := h1.app etRow g off d us (by omega) (fun j u hj => by
      obtain ⟨g', off', e, hc⟩ := i1.at_ hj
      injection e with e
      injection e with e1 e2
      subst e1 e2
      exact hc) i2.one_cell (by omega)
    refine ⟨A', c', v', fun ty => ?_, on.mono (fun k _ hk => h3 k hk), vs ++ us, mv, ?_, fun k hk => ?_⟩
    · have := r ty
      rw [hl, hm] at this
      exact this
    · have hrow : ∀ k, blk A = some k → ∀ cur, v.heap[k]? = some (.cells cur 5 (0, 0)) → False := fun k hk cur hc => by
        obtain ⟨cur', t⟩ := h1.type k hk
        exact types_apart (by decide) t hc
      exact Pcs.cat (Pcs.only on (fun k _ ⟨cur, hc⟩ hk => hrow k hk cur hc) (fun k hk => .inl hk) h2) (Pcs.only on (fun k _ ⟨cur, hc⟩ hk => hrow k hk cur hc) (fun k hk => .inr (.inl hk)) i2)
    · rcases kin k hk with h | h
      · exact .inl (h3 k h)
      · exact .inr (.inr ⟨h, mv.blk_lt k hk⟩)
/-- a row that the law keeps comes under way -/
theorem PrOne.appWay (h : PrOne (fun k => H k ∨ G k) w v P b p) (hG : ∀ k, G k → w.heap.size ≤ k ∧ ¬ H k) {B : Option Addr} {d : Nat} {m : List (List UInt8)} (row : RowP v G B d m) (i : Bool) (hb : (p.way i).length + m.length ≤ 2000000) :
    ∃ A c A' c' v', v.cell? ⟨P, 2 + i.toNat, none⟩ = some (.slice A (p.way i).length c) ∧ (∀ ty, (Builtin.append_ #[31, 31] ty #[.slice A (p.way i).length c, .slice B m.length d]).run Try.prog v = .ok (.slice A' ((p.way i).length + m.length) c') v') ∧
      v'.cell? ⟨P, 2 + i.toNat, none⟩ = some (.slice A (p.way i).length c) ∧ v'.frozen? ⟨P, 2 + i.toNat, none⟩ = false ∧ PrOne H w (v'.setCell ⟨P, 2 + i.toNat, none⟩ (.slice A' ((p.way i).length + m.length) c')) P b (p.setWay i (p.way i ++ m)) ∧ Kept H v (v'.setCell ⟨P, 2 + i.toNat, none⟩ (.slice A' ((p.way i).length + m.length) c')) := by
  obtain ⟨t, h1, h2, h3, h4⟩ := h
  have h1' := h1
  obtain ⟨_, _, _, q, q1, q2, _, _⟩ := h1
  obtain ⟨A', c', v', r, on, mv⟩ := (q2 i).cat row hb
  have hno : ∀ k, v.heap.size ≤ k → t k = .no := fun k hk => Classical.byContradiction fun hn => by have := h1'.lt k hn; omega
  have gno : ∀ k, G k → t k = .no := fun k hk => Classical.byContradiction fun hn => (h2 k hn).2 (.inr hk)
  have hS : ∀ k, (t k = .wy i ∨ G k ∨ (v.heap.size ≤ k ∧ k < v'.heap.size)) → t k = .no ∨ t k = .wy i := fun k hk => by
    rcases hk with hk | hk | hk
    · exact .inr hk
    · exact .inl (gno k hk)
    · exact .inl (hno k hk.1)
  have hlt : ∀ k, (t k = .wy i ∨ G k ∨ (v.heap.size ≤ k ∧ k < v'.heap.size)) → k < v'.heap.size := fun k hk => by
    rcases hk with hk | hk | hk
    · exact Nat.lt_of_lt_of_le (h1'.lt k (by rw [hk]; simp)) on.size
    · exact Nat.lt_of_lt_of_le (h4 k (.inr hk)) on.size
    · exact hk.2
  obtain ⟨z, N⟩ := h1'.setWay (i := i) on (fun k hk => .inr hk) mv hS hlt
  have hl : (p.way i ++ m).length = (p.way i).length + m.length := List.length_append ..
  rw [hl] at N
  have hs2 := (only_set v' ⟨P, 2 + i.toNat, none⟩ (.slice A' ((p.way i).length + m.length) c')).size
  have onT : Only (fun k => t k = .wy i ∨ t k = .me) v (v'.setCell ⟨P, 2 + i.toNat, none⟩ (.slice A' ((p.way i).length + m.length) c')) :=
    (on.mono (fun k _ hk => .inl hk)).trans (only_set v' ⟨P, 2 + i.toNat, none⟩ _) (fun k _ e => .inr (by rw [e]; exact h1'.me))
  have nm : ∀ k, (t k = .wy i ∨ t k = .me) → t k ≠ .no := fun k hk e => by rw [e] at hk; simp at hk
  have c0 : v.cell? ⟨P, 2 + i.toNat, none⟩ = some (.slice (q.A i) (p.way i).length (q.c i)) := by
    rw [cell_of_row v P _ _ _ (0, 0) q1]
    cases i <;> rfl
  refine ⟨q.A i, q.c i, A', c', v', c0, r, (World.cell?_of_block (on.block P h1'.memP (fun e => by rw [h1'.me] at e; cases e))).trans c0, z, ⟨_, N, fun k hk => ?_, h3.trans (onT.below (fun k hk => (h2 k (nm k hk)).1) h3.size), fun k hk => Nat.lt_of_lt_of_le (h4 k (.inl hk)) onT.size⟩, _, onT, fun k hk e => (h2 k (nm k hk)).2 (.inl e), onT.size⟩
  rcases relabel_no hk with hk | hk
  · rcases hk with hk | hk | hk
    · have := h2 k (by rw [hk]; simp)
      exact ⟨this.1, fun e => this.2 (.inl e)⟩
    · exact hG k hk
    · exact ⟨Nat.le_trans h3.size hk.1, fun e => by have := h4 k (.inl e); omega⟩
  · exact ⟨(h2 k hk).1, fun e => (h2 k hk).2 (.inl e)⟩
/-- one more string -/
theorem PrOne.appHeard (h : PrOne H w v P b p) (i : Bool) (x : List UInt8) (hb : (p.heard i).length ≤ 1048576) :
    ∃ A c A' c' v', v.cell? ⟨P, 4 + i.toNat, none⟩ = some (.slice A (p.heard i).length c) ∧ (∀ ty, (Builtin.append_ #[33, 33] ty #[.slice A (p.heard i).length c, .slice (some ⟨v.heap.size, 0, none⟩) 1 1]).run Try.prog (v.alloc (.cells #[strV x] 9)) = .ok (.slice A' ((p.heard i).length + 1) c') v') ∧
      v'.cell? ⟨P, 4 + i.toNat, none⟩ = some (.slice A (p.heard i).length c) ∧ v'.frozen? ⟨P, 4 + i.toNat, none⟩ = false ∧ PrOne H w (v'.setCell ⟨P, 4 + i.toNat, none⟩ (.slice A' ((p.heard i).length + 1) c')) P b (p.setHeard i (p.heard i ++ [x])) ∧ Kept H v (v'.setCell ⟨P, 4 + i.toNat, none⟩ (.slice A' ((p.heard i).length + 1) c')) := by
  obtain ⟨t, h1, h2, h3, h4⟩ := h
  have h1' := h1
  obtain ⟨_, _, _, q, q1, q2, q3, q4⟩ := h1
  obtain ⟨A', c', v', r, mv, on, kin⟩ := (q3 i).1.app1 etStr (strV x) rfl (by simpa using hb)
  have on : Only (fun k => t k = .hr i) v v' := on.mono (fun k _ hk => (q3 i).2 k hk)
  have hno : ∀ k, v.heap.size ≤ k → t k = .no := fun k hk => Classical.byContradiction fun hn => by have := h1'.lt k hn; omega
  have hS : ∀ k, (t k = .hr i ∨ (v.heap.size ≤ k ∧ k < v'.heap.size)) → t k = .no ∨ t k = .hr i := fun k hk => by
    rcases hk with hk | hk
    · exact .inr hk
    · exact .inl (hno k hk.1)
  have hlt : ∀ k, (t k = .hr i ∨ (v.heap.size ≤ k ∧ k < v'.heap.size)) → k < v'.heap.size := fun k hk => by
    rcases hk with hk | hk
    · exact Nat.lt_of_lt_of_le (h1'.lt k (by rw [hk]; simp)) on.size
    · exact hk.2
  have mv' : StrP v' (fun k => t k = .hr i ∨ (v.heap.size ≤ k ∧ k < v'.heap.size)) A' c' (p.heard i ++ [x]) := ⟨by rw [List.map_append]; exact mv, fun k hk => (kin k hk).elim (fun h => .inl ((q3 i).2 k h)) (fun h => .inr ⟨h, mv.blk_lt k hk⟩)⟩
  obtain ⟨z, N⟩ := h1'.setHeard (i := i) on (fun k hk => .inr hk) mv' hS hlt
  have hl : (p.heard i ++ [x]).length = (p.heard i).length + 1 := by simp
  have hm : ((p.heard i).map strV).length = (p.heard i).length := List.length_map ..
  rw [hl] at N
  rw [hm] at r
  have onT : Only (fun k => t k = .hr i ∨ t k = .me) v (v'.setCell ⟨P, 4 + i.toNat, none⟩ (.slice A' ((p.heard i).length + 1) c')) :=
    (on.mono (fun k _ hk => .inl hk)).trans (only_set v' ⟨P, 4 + i.toNat, none⟩ _) (fun k _ e => .inr (by rw [e]; exact h1'.me))
  have nm : ∀ k, (t k = .hr i ∨ t k = .me) → t k ≠ .no := fun k hk e => by rw [e] at hk; simp at hk
  have c0 : v.cell? ⟨P, 4 + i.toNat, none⟩ = some (.slice (q.B i) (p.heard i).length (q.d i)) := by
    rw [cell_of_row v P _ _ _ (0, 0) q1]
    cases i <;> rfl
  refine ⟨q.B i, q.d i, A', c', v', c0, r, (World.cell?_of_block (on.block P h1'.memP (fun e => by rw [h1'.me] at e; cases e))).trans c0, z, ⟨_, N, fun k hk => ?_, h3.trans (onT.below (fun k hk => (h2 k (nm k hk)).1) h3.size), fun k hk => Nat.lt_of_lt_of_le (h4 k hk) onT.size⟩, _, onT, fun k hk e => (h2 k (nm k hk)).2 e, onT.size⟩
  rcases relabel_no hk with hk | hk
  · rcases hk with hk | hk
    · exact h2 k (by rw [hk]; simp)
    · exact ⟨Nat.le_trans h3.size hk.1, fun e => by have := h4 k e; omega⟩
  · exact h2 k hk
/-- one more string -/
theorem PrOne.appSaid (h : PrOne H w v P b p) (i : Bool) (x : List UInt8) (hb : (p.said i).length ≤ 1048576) :
    ∃ A c A' c' v', v.cell? ⟨P, 6 + i.toNat, none⟩ = some (.slice A (p.said i).length c) ∧ (∀ ty, (Builtin.append_ #[33, 33] ty #[.slice A (p.said i).length c, .slice (some ⟨v.heap.size, 0, none⟩) 1 1]).run Try.prog (v.alloc (.cells #[strV x] 9)) = .ok (.slice A' ((p.said i).length + 1) c') v') ∧
      v'.cell? ⟨P, 6 + i.toNat, none⟩ = some (.slice A (p.said i).length c) ∧ v'.frozen? ⟨P, 6 + i.toNat, none⟩ = false ∧ PrOne H w (v'.setCell ⟨P, 6 + i.toNat, none⟩ (.slice A' ((p.said i).length + 1) c')) P b (p.setSaid i (p.said i ++ [x])) ∧ Kept H v (v'.setCell ⟨P, 6 + i.toNat, none⟩ (.slice A' ((p.said i).length + 1) c')) := by
  obtain ⟨t, h1, h2, h3, h4⟩ := h
  have h1' := h1
  obtain ⟨_, _, _, q, q1, q2, q3, q4⟩ := h1
  obtain ⟨A', c', v', r, mv, on, kin⟩ := (q4 i).1.app1 etStr (strV x) rfl (by simpa using hb)
  have on : Only (fun k => t k = .sd i) v v' := on.mono (fun k _ hk => (q4 i).2 k hk)
  have hno : ∀ k, v.heap.size ≤ k → t k = .no := fun k hk => Classical.byContradiction fun hn => by have := h1'.lt k hn; omega
  have hS : ∀ k, (t k = .sd i ∨ (v.heap.size ≤ k ∧ k < v'.heap.size)) → t k = .no ∨ t k = .sd i := fun k hk => by
    rcases hk with hk | hk
    · exact .inr hk
    · exact .inl (hno k hk.1)
  have hlt : ∀ k, (t k = .sd i ∨ (v.heap.size ≤ k ∧ k < v'.heap.size)) → k < v'.heap.size := fun k hk => by
    rcases hk with hk | hk
    · exact Nat.lt_of_lt_of_le (h1'.lt k (by rw [hk]; simp)) on.size
    · exact hk.2
  have mv' : StrP v' (fun k => t k = .sd i ∨ (v.heap.size ≤ k ∧ k < v'.heap.size)) A' c' (p.said i ++ [x]) := ⟨by rw [List.map_append]; exact mv, fun k hk => (kin k hk).elim (fun h => .inl ((q4 i).2 k h)) (fun h => .inr ⟨h, mv.blk_lt k hk⟩)⟩
  obtain ⟨z, N⟩ := h1'.setSaid (i := i) on (fun k hk => .inr hk) mv' hS hlt
  have hl : (p.said i ++ [x]).length = (p.said i).length + 1 := by simp
  have hm : ((p.said i).map strV).length = (p.said i).length := List.length_map ..
  rw [hl] at N
  rw [hm] at r
  have onT : Only (fun k => t k = .sd i ∨ t k = .me) v (v'.setCell ⟨P, 6 + i.toNat, none⟩ (.slice A' ((p.said i).length + 1) c')) :=
    (on.mono (fun k _ hk => .inl hk)).trans (only_set v' ⟨P, 6 + i.toNat, none⟩ _) (fun k _ e => .inr (by rw [e]; exact h1'.me))
  have nm : ∀ k, (t k = .sd i ∨ t k = .me) → t k ≠ .no := fun k hk e => by rw [e] at hk; simp at hk
  have c0 : v.cell? ⟨P, 6 + i.toNat, none⟩ = some (.slice (q.C i) (p.said i).length (q.e i)) := by
    rw [cell_of_row v P _ _ _ (0, 0) q1]
    cases i <;> rfl
  refine ⟨q.C i, q.e i, A', c', v', c0, r, (World.cell?_of_block (on.block P h1'.memP (fun e => by rw [h1'.me] at e; cases e))).trans c0, z, ⟨_, N, fun k hk => ?_, h3.trans (onT.below (fun k hk => (h2 k (nm k hk)).1) h3.size), fun k hk => Nat.lt_of_lt_of_le (h4 k hk) onT.size⟩, _, onT, fun k hk e => (h2 k (nm k hk)).2 e, onT.size⟩
  rcases relabel_no hk with hk | hk
  · rcases hk with hk | hk
    · exact h2 k (by rw [hk]; simp)
    · exact ⟨Nat.le_trans h3.size hk.1, fun e => by have := h4 k e; omega⟩
  · exact h2 k hk
theorem PrOne.setDowns (h : PrOne H w v P b p) (n : Nat) : PrOne H w (v.setCell ⟨P, 8, none⟩ (.int .i64 (n : Int))) P b (p.setDowns n) ∧ Kept H v (v.setCell ⟨P, 8, none⟩ (.int .i64 (n : Int))) := by
  obtain ⟨t, h1, h2, h3, h4⟩ := h
  have on2 := only_set v ⟨P, 8, none⟩ (.int .i64 (n : Int))
  have mp : t P ≠ .no := by rw [h1.me]; simp
  have hP : ∀ k, k = (⟨P, 8, none⟩ : Addr).block → w.heap.size ≤ k ∧ ¬ H k := fun k e => by rw [e]; exact h2 P mp
  exact ⟨⟨t, (h1.setDowns n).2, h2, h3.trans (on2.below (fun k hk => (hP k hk).1) h3.size), fun k hk => Nat.lt_of_lt_of_le (h4 k hk) on2.size⟩, _, on2, fun k hk => (hP k hk).2, on2.size⟩
/-- the first that is under way: it goes, and may be read still where the other end is called -/
theorem PrOne.first (h : PrOne H w v P b p) (i : Bool) {x : List UInt8} {l : List (List UInt8)} (hw : p.way i = x :: l) :
    ∃ g off c B d, v.cell? ⟨P, 2 + i.toNat, none⟩ = some (.slice (some ⟨g, off, none⟩) (l.length + 1) c) ∧ v.cell? ⟨g, off, none⟩ = some (.slice B x.length d) ∧ x.length ≤ d ∧ d ≤ maxLen ∧ l.length + 1 ≤ c ∧ c ≤ maxLen ∧
      ∀ C V1, C = (if c = 1 then some ⟨g, off, none⟩ else some ⟨g, off + 1, none⟩) → v.setCell ⟨P, 2 + i.toNat, none⟩ (.slice C l.length (c - 1)) = V1 → PrOne H w V1 P b (p.setWay i l) ∧ Kept H v V1 ∧
        ∀ (s' : Aq) {f : Nat} {args : Array Value} {r : Ending}, (∀ H', AqOne H' w V1 (b (!i)) (p.a (!i)) → Rd V1 B x → (∀ k, blk B = some k → H' k) → Calls Try.prog f args V1 fun e v' => e = r ∧ AqOne H' w v' (b (!i)) s' ∧ Kept H' V1 v') →
          Calls Try.prog f args V1 fun e v' => e = r ∧ PrOne H w v' P b ((p.setWay i l).setA (!i) s') ∧ Kept H v v' := by
  obtain ⟨t, h1, h2, h3, h4⟩ := h
  have h1' := h1
  obtain ⟨_, _, _, q, q1, q2, q3, q4⟩ := h1
  have row := q2 i
  rw [hw] at row
  obtain ⟨vs, m1, m2, m3⟩ := row
  obtain ⟨u, us, rfl, hu, hus⟩ := m2.cons_inv
  obtain ⟨B, d, rfl, hmB, hFB⟩ := hu
  have hul := hus.len
  have hlc := m1.1
  have hlc2 := m1.2.1
  simp at hlc
  obtain ⟨g, off, hA, k0, h1c, r0, r1⟩ := m1.rest
  have c0 : v.cell? ⟨P, 2 + i.toNat, none⟩ = some (.slice (some ⟨g, off, none⟩) (l.length + 1) (q.c i)) := by
    rw [cell_of_row v P _ _ _ (0, 0) q1, ← hA]
    have : (p.way i).length = l.length + 1 := by rw [hw]; rfl
    rw [← this]
    cases i <;> rfl
  refine ⟨g, off, q.c i, B, d, c0, k0, hmB.1, hmB.2.1, by omega, hlc2, fun C V1 hC hV => ?_⟩
  have hr : RowP v (fun k => t k = .wy i) C (q.c i - 1) l := by
    refine ⟨us, ?_, hus, fun k hk => ?_⟩
    · rw [hC]
      split
      · next e =>
        have := r0 e
        rw [hA] at this
        rw [e]
        exact this
      · exact r1
    · apply m3 k
      rw [hA]
      rw [hC] at hk
      split at hk <;> exact hk
  obtain ⟨z, N⟩ := h1'.setWay (i := i) (G := fun _ => False) (Only.refl _ _) (fun _ e => e.elim) hr (fun k hk => .inr hk) (fun k hk => h1'.lt k (by rw [hk]; simp))
  rw [relabel_id, hV] at N
  have on1 : Only (fun k => k = P) v V1 := by rw [← hV]; exact only_set v ⟨P, 2 + i.toNat, none⟩ _
  have mp : t P ≠ .no := by rw [h1'.me]; simp
  have T1 : PrOneT t H w V1 P b (p.setWay i l) := ⟨N, h2, h3.trans (on1.below (fun k hk => by rw [hk]; exact (h2 P mp).1) h3.size), fun k hk => Nat.lt_of_lt_of_le (h4 k hk) on1.size⟩
  have K1 : Kept H v V1 := ⟨_, on1, fun k hk => by rw [hk]; exact (h2 P mp).2, on1.size⟩
  refine ⟨⟨t, T1⟩, K1, fun s' f args r hc => ?_⟩
  have rd : Rd V1 B x := (hmB.only on1 (fun k hk e => by
    have := hFB k hk
    rw [e, h1'.me] at this
    cases this)).rd
  refine (hc _ (T1.one (!i)).1 rd (fun k hk => .inr ?_)).mono ?_
  · have := hFB k hk
    exact ⟨by rw [this]; simp, by rw [this]; simp⟩
  · rintro e v' ⟨rfl, o', k⟩
    obtain ⟨a1, a2, _⟩ := T1.one0 (!i) o' k
    exact ⟨rfl, a1, K1.trans a2⟩
theorem slice_inj {A B : Option Addr} {n m c d : Nat} (h : (some (Value.slice A n c)) = some (Value.slice B m d)) : A = B ∧ n = m ∧ c = d := by
  injection h with h
  injection h with h1 h2 h3
  exact ⟨h1, h2, h3⟩
/-- all outputs of one come under way -/
theorem PrOne.tellOut (h : PrOne H w v P b p) (i : Bool) (hb : (p.way i).length + (p.a i).os.length ≤ 1000000) : ∃ A c, v.cell? ⟨P, 2 + i.toNat, none⟩ = some (.slice A (p.way i).length c) ∧
    Calls Try.prog 24 #[.pointer (some ⟨b i, 0, none⟩)] v fun e v1 => ∃ B d A' c' v2, e = .returned (.slice B (p.a i).os.length d) ∧ v1.cell? ⟨P, 2 + i.toNat, none⟩ = some (.slice A (p.way i).length c) ∧
      (∀ ty, (Builtin.append_ #[31, 31] ty #[.slice A (p.way i).length c, .slice B (p.a i).os.length d]).run Try.prog v1 = .ok (.slice A' ((p.way i).length + (p.a i).os.length) c') v2) ∧
      v2.cell? ⟨P, 2 + i.toNat, none⟩ = some (.slice A (p.way i).length c) ∧ v2.frozen? ⟨P, 2 + i.toNat, none⟩ = false ∧
      PrOne H w (v2.setCell ⟨P, 2 + i.toNat, none⟩ (.slice A' ((p.way i).length + (p.a i).os.length) c')) P b ((p.setA i (p.a i).output).setWay i (p.way i ++ (p.a i).os)) ∧ Kept H v (v2.setCell ⟨P, 2 + i.toNat, none⟩ (.slice A' ((p.way i).length + (p.a i).os.length) c')) := by
  obtain ⟨A, c, k⟩ := h.cWay i
  refine ⟨A, c, k, (h.output i).mono ?_⟩
  rintro e v1 ⟨B, d, G, rfl, row, h1, K1, sp, hG⟩
  have k1 := (sp (2 + i.toNat)).trans k
  obtain ⟨A1, c1, A', c', v2, e1, r, k2, z2, h2, K2⟩ := h1.appWay hG row i (by show (p.way i).length + _ ≤ _; omega)
  obtain ⟨rfl, -, rfl⟩ := slice_inj (e1.symm.trans k1)
  exact ⟨B, d, A', c', v2, rfl, k1, r, k2, z2, h2, K1.trans K2⟩
end
end Go.Proofs.Ytgkdabllaankcaa
/- collect: all that both ends have told. Condition: room for it. -/
namespace Go.Proofs.Ytgkdabllaankcaa
open Go.RowKit
set_option linter.unusedVariables false

/-- room for what both have told -/
structure Pr.Room (p : Pr) : Prop where
  way : ∀ i, (p.way i).length + (p.a i).os.length ≤ 1000000
  heard : ∀ i, (p.heard i).length + (p.a i).od.r.length ≤ 1000000
  is : ∀ i, (p.a i).is.length ≤ 1000000
  downs : p.downs + (p.a false).is.length + (p.a true).is.length ≤ 1000000000
def Pr.upto (p : Pr) : Nat → Pr
  | 0 => p
  | 1 => p.drain false
  | _ => p.collect
theorem Pr.upto_same (p : Pr) (i : Bool) : ((p.upto i.toNat).a i = p.a i ∧ (p.upto i.toNat).way i = p.way i ∧ (p.upto i.toNat).heard i = p.heard i) ∧ (p.upto i.toNat).downs + (p.a i).is.length ≤ p.downs + (p.a false).is.length + (p.a true).is.length := by
  cases i
  · exact ⟨⟨rfl, rfl, rfl⟩, by show p.downs + _ ≤ _; omega⟩
  · refine ⟨⟨rfl, rfl, rfl⟩, ?_⟩
    show p.downs + dn (p.a false).is + _ ≤ _
    have := dn_le (p.a false).is
    omega
theorem Pr.drainW_same (q : Pr) (i : Bool) : ((q.drainW i).a i).od = (q.a i).od ∧ (q.drainW i).heard i = q.heard i ∧ ((q.drainW i).drainH i).downs = q.downs ∧ (((q.drainW i).drainH i).a i).is = (q.a i).is := by
  unfold Pr.drainH Pr.drainW Pr.setA Pr.setWay Pr.setHeard
  simp only [bset_same]
  exact ⟨rfl, trivial, trivial, rfl⟩
section
variable {w v v' : World} {H G : Nat → Prop} {P : Nat} {b : Bool → Nat} {p : Pr}
set_option maxRecDepth 20000 in
set_option maxHeartbeats 1000000 in
theorem collect_calls (h : PrOne H w v P b p) (hr : p.Room) : Calls Try.prog 16 #[.pointer (some ⟨P, 0, none⟩)] v fun e v' => e = .returned (.tuple #[]) ∧ PrOne H w v' P b p.collect ∧ Kept H v v' := by
  have HR := Lib.hid hr
  have H0 : Aside (PrOne H w v P b (p.upto 0) ∧ Kept H v v) := ⟨h, Kept.refl⟩
  clear hr h
  go_enter Try.func16, Try.ntmps16
  go_wp2_with fail
  go_loopg [2] 2 (fun kx s2 wr => ∃ k : Nat, s2 = .int .i64 (k : Int) ∧ k ≤ 2 ∧ 2 - k ≤ kx ∧ Aside (PrOne H w wr P b (p.upto k) ∧ Kept H v wr))
  case atStart => exact ⟨0, rfl, by omega, by omega, H0⟩
  case round =>
    clear H0
    obtain ⟨k, rfl, hk, hkx, HO⟩ := hrel
    by_cases hk2 : k < 2
    · obtain ⟨i, rfl⟩ : ∃ i : Bool, k = i.toNat := by
        rcases k with _ | _ | k
        · exact ⟨false, rfl⟩
        · exact ⟨true, rfl⟩
        · omega
      have gi : ((i.toNat : Nat) : Int) < 2 := by omega
      obtain ⟨h, hK⟩ := HO.out
      clear HO
      obtain ⟨q, hq⟩ : ∃ q, p.upto i.toNat = q := ⟨_, rfl⟩
      rw [hq] at h
      have gi0 : (0 : Int) ≤ ((i.toNat : Nat) : Int) := by omega
      obtain ⟨⟨u1, u2, u3⟩, u4⟩ := Pr.upto_same p i
      rw [hq] at u1 u2 u3 u4
      have hW : (q.way i).length + (q.a i).os.length ≤ 1000000 := by rw [u1, u2]; exact HR.out.way i
      have hHd := Lib.hid (show (q.heard i).length + (q.a i).od.r.length ≤ 1000000 by rw [u1, u3]; exact HR.out.heard i)
      have hDn := Lib.hid (show q.downs + (q.a i).is.length ≤ 1000000000 by rw [u1]; exact Nat.le_trans u4 HR.out.downs)
      clear u1 u2 u3 u4
      have hD := h.drewN 1
      have k0 := h.ptr i
      obtain ⟨A, c, k2, OC⟩ := hD.tellOut i hW
      have k2 : wr.cell? ⟨P, 2 + i.toNat, none⟩ = some (.slice A (q.way i).length c) := k2
      have HQ := Lib.hid hq
      clear h hD hq hW
      generalize hn : i.toNat = n at *
      have HN := Lib.hid hn
      clear hn
      generalize (q.way i).length = nw at *
      generalize (q.a i).os.length = no at *
      go_wp2_with fail
      go_region_law (first
        | (go_simp; go_at_call 24; refine OC.mono ?_; rintro e v1 ⟨B, d, A', c', v2, rfl, j2, r, j3, z3, h2, K2⟩; have FI := Lib.hid (And.intro h2 K2); clear h2 K2)
        | ((with_reducible refine step_append_run _ ?_ (.tmp 18) (.tmp 25) _ _ ?_ _ _ ?_ ?_ _ _ (r _) ?_); rfl; rfl; (focus (first | (simp [Act.eval]; done) | (simp [Act.eval, Act.put]; done))); (focus (first | (simp [Act.eval]; done) | (simp [Act.eval, Act.put]; done)))))
      all_goals
        clear OC r j2 j3 z3 k0 k2
        obtain ⟨V3, hV3⟩ : ∃ V3, v2.setCell ⟨P, 2 + n, none⟩ (.slice A' (nw + no) c') = V3 := ⟨_, rfl⟩
        rw [hV3] at FI ⊢
        clear hV3
        have F1 : Aside (PrOne H w V3 P b (q.drainW i) ∧ Kept H v V3) := ⟨FI.out.1, (hK.trans (Kept.drewN 1)).trans FI.out.2⟩
        clear FI
        go_wp2_with fail
        go_loopg [] ((q.a i).od.r.length) (fun kx wr => ∃ q', Aside (PrOne H w wr P b q' ∧ Kept H v wr) ∧ Aside (q'.drainH i = (q.drainW i).drainH i) ∧ (q'.a i).od.r.length ≤ kx ∧ (q'.heard i).length + (q'.a i).od.r.length ≤ 1000000)
        case atStart => exact ⟨q.drainW i, F1, rfl, by rw [(Pr.drainW_same q i).1]; exact Nat.le_refl _, by rw [(Pr.drainW_same q i).1, (Pr.drainW_same q i).2.1]; exact hHd.out⟩
        case round =>
          clear F1
          obtain ⟨q', HO, HT, hkx', hb⟩ := hrel
          obtain ⟨h, hK'⟩ := HO.out
          clear HO
          have k0 := h.ptr i
          rw [HN.out] at k0
          have RC := h.recv i
          cases hr' : (q'.a i).od.r with
          | nil =>
            have hX : (q'.a i).od.takeX = [] := by unfold Od.takeX; rw [hr']; rfl
            have hB : (q'.a i).od.takeB = false := by unfold Od.takeB; rw [hr']; rfl
            rw [hX, hB] at RC
            have HB := Lib.hid hb
            have RE : (q'.a i).recv = q'.a i := by
              unfold Aq.recv Aq.setOd Od.take
              rw [hr']
              show ({ (q'.a i) with od := ⟨_, _, _, _, []⟩ } : Aq) = _
              rw [← hr']
            rw [RE, show q'.setA i (q'.a i) = q' by unfold Pr.setA; rw [bset_self]] at RC
            rw [Pr.drainH_nil _ _ hr'] at HT
            clear RE hX hB hb
            go_wp2_with fail
            refine RC.mono ?_
            rintro e w1 ⟨A1, d1, rfl, rd1, h1, K1, -⟩
            have k1 := h1.ptr i
            rw [HN.out] at k1
            have IC := h1.inds i
            have HK1 := Lib.hid (hK'.trans K1)
            clear RC h h1 K1 rd1 hK' k0
            go_wp2_with fail
            refine IC.mono ?_
            rintro e w2 ⟨A2, c2, G, rfl, row, h2, K2, -, hG⟩
            obtain ⟨is, hIs⟩ : ∃ is, (q'.a i).is = is := ⟨_, rfl⟩
            obtain ⟨d0, hd0⟩ : ∃ d0, q'.downs = d0 := ⟨_, rfl⟩
            rw [hIs] at row ⊢
            have HIS := Lib.hid hIs
            have HD0 := Lib.hid hd0
            have H2 : Aside (PrOne (fun k => H k ∨ G k) w w2 P b ((q'.setA i (q'.a i).inds).setDowns (d0 + dn (is.take 0))) ∧ Kept H v w2 ∧ NumP w2 (fun k => H k ∨ G k) A2 c2 is) := ⟨by rw [← hd0]; exact h2, HK1.out.trans K2, row.wide fun k h => .inr h⟩
            have HDB : Aside (d0 + is.length ≤ 1000000000) := by rw [← hd0, ← hIs, show q' = (q.drainW i).drainH i from HT, (Pr.drainW_same q i).2.2.1, (Pr.drainW_same q i).2.2.2]; exact hDn.out
            clear IC h2 K2 row HK1 k1 hIs hd0
            generalize hLL : is.length = L at *
            have HLL := Lib.hid hLL
            clear hLL
            go_wp2_with fail
            go_loopg [6] L (fun kx s6 wr => ∃ j : Nat, s6 = .int .i64 (j : Int) ∧ j ≤ L ∧ L - j ≤ kx ∧ Aside (PrOne (fun k => H k ∨ G k) w wr P b ((q'.setA i (q'.a i).inds).setDowns (d0 + dn (is.take j))) ∧ Kept H v wr ∧ NumP wr (fun k => H k ∨ G k) A2 c2 is))
            case atStart => exact ⟨0, rfl, by omega, by omega, H2⟩
            case round =>
              clear H2
              obtain ⟨j, rfl, hj, hkj, HO⟩ := hrel
              by_cases hjL : j < L
              · obtain ⟨h5, K5, row5⟩ := HO.out
                obtain ⟨g, off, rfl, kc⟩ := row5.at_ (j := j) (by rw [HLL.out]; exact hjL)
                have kd : wr.cell? ⟨P, 8, none⟩ = some (.int .i64 ((d0 + dn (is.take j) : Nat) : Int)) := h5.cDowns
                have z8 := h5.z 8
                have hdt := dn_take (l := is) (j := j) (by rw [HLL.out]; exact hjL)
                have hdl := dn_le (is.take j)
                have hdl2 : (is.take j).length ≤ L := by rw [List.length_take]; omega
                have hdb := HDB.out
                have jb : j < 2000000000 := by omega
                have gj : (j : Int) < (L : Int) := by omega
                have gj0 : (0 : Int) ≤ (j : Int) := by omega
                by_cases h1 : is.getD j 0 = 1
                · have kc1 : wr.cell? ⟨g, off + j, none⟩ = some (.int .i64 1) := by rw [h1] at kc; exact kc
                  have hdt2 : dn (is.take (j + 1)) = dn (is.take j) := hdt.trans (by rw [if_neg (fun hh => hh h1)]; rfl)
                  rw [← hdt2] at h5
                  have HR5 : Aside (PrOne (fun k => H k ∨ G k) w wr P b ((q'.setA i (q'.a i).inds).setDowns (d0 + dn (is.take (j + 1)))) ∧ Kept H v wr ∧ NumP wr (fun k => H k ∨ G k) (some ⟨g, off, none⟩) c2 is) := ⟨h5, K5, row5⟩
                  clear HO h5 K5 row5 kc kd z8 hdt hdt2 hdl hdl2 hdb h1
                  go_wp2
                  go_roundg (L - (j + 1))
                  case measure => omega
                  case rel => exact ⟨j + 1, by go_num, by omega, Nat.le_refl _, HR5⟩
                · have g1 : ¬ ((is.getD j 0 : Nat) : Int) = 1 := by omega
                  rw [if_pos h1] at hdt
                  obtain ⟨X, hX⟩ : ∃ X, wr.setCell ⟨P, 8, none⟩ (.int .i64 (((d0 + dn (is.take j) : Nat) : Int) + 1)) = X := ⟨_, rfl⟩
                  have SD := h5.setDowns (d0 + dn (is.take j) + 1)
                  rw [show ((d0 + dn (is.take j) + 1 : Nat) : Int) = ((d0 + dn (is.take j) : Nat) : Int) + 1 from rfl, hX] at SD
                  have HR5 : Aside (PrOne (fun k => H k ∨ G k) w X P b ((q'.setA i (q'.a i).inds).setDowns (d0 + dn (is.take (j + 1)))) ∧ Kept H v X ∧ NumP X (fun k => H k ∨ G k) (some ⟨g, off, none⟩) c2 is) := ⟨by rw [hdt]; exact SD.1, K5.trans (SD.2.less fun k h => .inl h), SD.2.num row5⟩
                  have hb1 : d0 + dn (is.take j) ≤ 1000000000 := by omega
                  generalize is.getD j 0 = y at *
                  generalize d0 + dn (is.take j) = z at *
                  clear HO h5 K5 row5 SD hdt hdl hdl2 hdb h1
                  go_wp2
                  go_roundg (L - (j + 1))
                  case measure => omega
                  case rel => exact ⟨j + 1, by go_num, by omega, Nat.le_refl _, HR5⟩
              · have hjE : j = L := by omega
                subst hjE
                obtain ⟨h5, K5, -⟩ := HO.out
                have HRE : Aside (PrOne H w wr P b (p.upto (n + 1)) ∧ Kept H v wr) := by
                  refine ⟨?_, K5⟩
                  have e1 : is.take j = is := List.take_of_length_le (by rw [HLL.out]; exact Nat.le_refl _)
                  rw [e1] at h5
                  have e2 : (q'.setA i (q'.a i).inds).setDowns (d0 + dn is) = p.upto (n + 1) := by
                    rw [← HD0.out, ← HIS.out]
                    show q'.drainI i = _
                    rw [show q' = (q.drainW i).drainH i from HT, Pr.drain_parts, ← HQ.out, ← HN.out]
                    cases i <;> rfl
                  rw [e2] at h5
                  exact h5.less fun k h => .inl h
                clear HO h5 K5 HDB HT HD0 HIS HLL HB
                have gj : ¬ (j : Int) < (j : Int) := by omega
                go_wp2
                go_roundg (2 - (n + 1))
                case measure => omega
                case rel => exact ⟨n + 1, by go_num, by omega, Nat.le_refl _, HRE⟩
          | cons x l =>
            have hX : (q'.a i).od.takeX = x := by unfold Od.takeX; rw [hr']; rfl
            have hB : (q'.a i).od.takeB = true := by unfold Od.takeB; rw [hr']; rfl
            obtain ⟨e1, e2, -, -⟩ := Pr.hear_r q' i hr'
            have e3 := Pr.drainH_hear q' i hr'
            rw [hr', List.length_cons] at hb hkx'
            have HH : Aside (∀ W, PrOne H w W P b ((q'.setA i (q'.a i).recv).setHeard i (q'.heard i ++ [x])) → Kept H v W → ∃ q', Aside (PrOne H w W P b q' ∧ Kept H v W) ∧ Aside (q'.drainH i = (q.drainW i).drainH i) ∧ (q'.a i).od.r.length ≤ l.length ∧ (q'.heard i).length + (q'.a i).od.r.length ≤ 1000000) := by
              intro W a1 a2
              refine ⟨q'.hear i, ⟨?_, a2⟩, e3.trans HT, by rw [e1]; exact Nat.le_refl _, by rw [e1, e2, List.length_append, List.length_singleton]; omega⟩
              unfold Pr.hear
              rw [hX]
              exact a1
            rw [hX, hB] at RC
            clear hX hB e1 e2 e3
            go_wp2_with fail
            refine RC.mono ?_
            rintro e w1 ⟨A1, d1, rfl, rd1, h1, K1, -⟩
            have hD := h1.drewN 1
            obtain ⟨A5, c5, A6, c6, v6, a1, a2, a3, a4, a5, a6⟩ := hD.appHeard i x (by show (q'.heard i).length ≤ _; omega)
            rw [HN.out] at a1 a3 a4 a5 a6
            have FJ := HH (v6.setCell ⟨P, 4 + n, none⟩ (.slice A6 ((q'.heard i).length + 1) c6)) a5 (((hK'.trans K1).trans (Kept.drewN 1)).trans a6)
            change (w1.drewN 1).cell? ⟨P, 4 + n, none⟩ = some (.slice A5 (q'.heard i).length c5) at a1
            change v6.cell? ⟨P, 4 + n, none⟩ = some (.slice A5 (q'.heard i).length c5) at a3
            have HF := Lib.hid FJ
            have a2 : ∀ ty, (Builtin.append_ #[33, 33] ty #[.slice A5 (q'.heard i).length c5, .slice (some ⟨w1.heap.size, 0, none⟩) 1 1]).run Try.prog (w1.alloc (.cells #[.string ⟨x.toArray⟩] 9)).drew = .ok (.slice A6 ((q'.heard i).length + 1) c6) v6 := a2
            clear RC h h1 hD K1 hK' k0 a5 a6 FJ HH HT HQ hr'
            generalize (q'.heard i).length = nh at *
            have q1 : (convert 39 9 (.slice A1 x.length d1)).run Try.prog w1.drew = .ok (.string ⟨x.toArray⟩) w1.drew := run_conv w1.drew A1 d1 x rd1
            have a1 : w1.cell? ⟨P, 4 + n, none⟩ = some (.slice A5 nh c5) := a1
            have a7 : (w1.alloc (.cells #[.string ⟨x.toArray⟩] 9)).cell? ⟨P, 4 + n, none⟩ = some (.slice A5 nh c5) := (World.cell?_alloc_some w1 _ _ (by rw [a1]; rfl)).trans a1
            clear rd1
            go_wp2_with fail
            go_region_law (first
              | ((with_reducible refine step_append_run _ ?_ (.tmp 49) (.tmp 52) _ _ ?_ _ _ ?_ ?_ _ _ (a2 _) ?_); rfl; rfl; (focus (first | (simp [Act.eval]; done) | (simp [Act.eval, Act.put]; done))); (focus (first | (simp [Act.eval]; done) | (simp [Act.eval, Act.put]; done)))))
            all_goals
              clear a1 a2 a3 a4 a7 q1
              go_wp2
              go_roundg (l.length)
              case measure => omega
              case rel => exact HF.out
    · have hkE : k = 2 := by omega
      subst hkE
      have FI := Lib.hid HO
      clear HO
      go_wp2
      go_end0
      exact ⟨rfl, FI.out⟩
end
end Go.Proofs.Ytgkdabllaankcaa

/- Two rings of the program, one of the reference and a call side by side. No condition. -/
import Derived.Test.YtpjhehfhpeclhaaRngRefLoop
import Derived.Test.YtpjhehfhpeclhaaRngAlive
import Derived.Test.YtpjhehfhpeclhaaActRowsQ
namespace Go.Proofs.Ytpjhehfhpeclhaa
open Go.RowKit
set_option linter.unusedVariables false

/-- the cells of a call -/
def ac (a : ActP) (B : Option Addr) (d : Nat) : Array Value := #[.int .i64 a.way, .int .i64 a.n, .slice B a.x.length d]
/-- From the block p on: a ring of the program, another one, one of the reference; their memory lies apart, behind what was there before. -/
structure Tri (w v : World) (FP FO FR : Nat → Prop) (p : Nat) (s so sr : Rng) : Prop where
  pp : PQ v FP p s
  po : PQ v FO (p + 1) so
  pr : PX v FR (p + 2) sr
  dpo : ∀ k, FP k → ¬ FO k
  dpr : ∀ k, FP k → ¬ FR k
  dor : ∀ k, FO k → ¬ FR k
  new : ∀ k, FP k ∨ FO k ∨ FR k → w.heap.size ≤ k
  bel : Below w.heap.size w v
section
variable {w v v' : World} {FP FO FR : Nat → Prop} {p : Nat} {s so sr s' : Rng}
theorem Tri.turnP (h : Tri w v FP FO FR p s so sr) (t : Turn FP p s' v v') : Tri w v' (more FP v v') FO FR p s' so sr :=
  ⟨t.1, h.po.only t.2 (fun k hk hp => h.dpo k hp hk), h.pr.only t.2 (fun k hk hp => h.dpr k hp hk),
    fun k hk hF => hk.elim (fun hp => h.dpo k hp hF) (fun hn => by have := h.po.lt k hF; omega), fun k hk hF => hk.elim (fun hp => h.dpr k hp hF) (fun hn => by have := h.pr.lt k hF; omega), h.dor,
    fun k hk => hk.elim (fun hk => hk.elim (fun hp => h.new k (.inl hp)) (fun hn => Nat.le_trans h.bel.size hn.1)) (fun hk => h.new k (.inr hk)), h.bel.trans (t.2.below (fun k hk => h.new k (.inl hk)) h.bel.size)⟩
theorem Tri.sameP (h : Tri w v FP FO FR p s so sr) (hp : PQ v' FP p s') (o : Only FP v v') : Tri w v' FP FO FR p s' so sr :=
  ⟨hp, h.po.only o (fun k hk hp => h.dpo k hp hk), h.pr.only o (fun k hk hp => h.dpr k hp hk), h.dpo, h.dpr, h.dor, h.new, h.bel.trans (o.below (fun k hk => h.new k (.inl hk)) h.bel.size)⟩
theorem Tri.turnO (h : Tri w v FP FO FR p s so sr) (t : Turn FO (p + 1) s' v v') : Tri w v' FP (more FO v v') FR p s s' sr :=
  ⟨h.pp.only t.2 (fun k hk => h.dpo k hk), t.1, h.pr.only t.2 (fun k hk hp => h.dor k hp hk),
    fun k hk hF => hF.elim (fun hp => h.dpo k hk hp) (fun hn => by have := h.pp.lt k hk; omega), h.dpr, fun k hk hF => hk.elim (fun hp => h.dor k hp hF) (fun hn => by have := h.pr.lt k hF; omega),
    fun k hk => hk.elim (fun hp => h.new k (.inl hp)) (fun hk => hk.elim (fun hk => hk.elim (fun hp => h.new k (.inr (.inl hp))) (fun hn => Nat.le_trans h.bel.size hn.1)) (fun hk => h.new k (.inr (.inr hk)))), h.bel.trans (t.2.below (fun k hk => h.new k (.inr (.inl hk))) h.bel.size)⟩
theorem Tri.turnR (h : Tri w v FP FO FR p s so sr) (t : TurnR FR (p + 2) s' v v') : Tri w v' FP FO (more FR v v') p s so s' :=
  ⟨h.pp.only t.2 (fun k hk => h.dpr k hk), h.po.only t.2 (fun k hk => h.dor k hk), t.1, h.dpo,
    fun k hk hF => hF.elim (fun hp => h.dpr k hk hp) (fun hn => by have := h.pp.lt k hk; omega), fun k hk hF => hF.elim (fun hp => h.dor k hk hp) (fun hn => by have := h.po.lt k hk; omega),
    fun k hk => hk.elim (fun hp => h.new k (.inl hp)) (fun hk => hk.elim (fun hk => h.new k (.inr (.inl hk))) (fun hk => hk.elim (fun hp => h.new k (.inr (.inr hp))) (fun hn => Nat.le_trans h.bel.size hn.1))), h.bel.trans (t.2.below (fun k hk => h.new k (.inr (.inr hk))) h.bel.size)⟩
theorem Tri.sameR (h : Tri w v FP FO FR p s so sr) (hp : PX v' FR (p + 2) s') (o : Only FR v v') : Tri w v' FP FO FR p s so s' :=
  ⟨h.pp.only o (fun k hk => h.dpr k hk), h.po.only o (fun k hk => h.dor k hk), hp, h.dpo, h.dpr, h.dor, h.new, h.bel.trans (o.below (fun k hk => h.new k (.inr (.inr hk))) h.bel.size)⟩
theorem Tri.beside (h : Tri w v FP FO FR p s so sr) (b : Below v.heap.size v v') : Tri w v' FP FO FR p s so sr :=
  have o : Only (fun _ => False) v v' := Only.of_below _ b
  ⟨h.pp.only o (fun _ _ h => h), h.po.only o (fun _ _ h => h), h.pr.only o (fun _ _ h => h), h.dpo, h.dpr, h.dor, h.new, h.bel.trans (b.mono h.bel.size)⟩
theorem Tri.lt (h : Tri w v FP FO FR p s so sr) {k : Nat} (hk : v.heap.size ≤ k) : ¬ FP k ∧ ¬ FO k ∧ ¬ FR k :=
  ⟨fun hF => by have := h.pp.lt k hF; omega, fun hF => by have := h.po.lt k hF; omega, fun hF => by have := h.pr.lt k hF; omega⟩
end
/-- as Tri, whatever memory it is -/
def Tr0 (w v : World) (p : Nat) (s so sr : Rng) : Prop := ∃ FP FO FR, Tri w v FP FO FR p s so sr
/-- the block q holds the call; the slice at A1 reads as x1; both lie apart from the rings -/
def Bes (v : World) (FP FO FR : Nat → Prop) (q : Nat) (a : ActP) (B : Option Addr) (d : Nat) (A1 : Option Addr) (x1 : List UInt8) : Prop :=
  v.heap[q]? = some (.cells (ac a B d) 30 (0, 0)) ∧ Rd v A1 x1 ∧ (¬ FP q ∧ ¬ FO q ∧ ¬ FR q) ∧ ∀ k, blk A1 = some k → k < v.heap.size ∧ ¬ FP k ∧ ¬ FO k ∧ ¬ FR k
/-- the rings, a call and a result -/
def TrX (w v : World) (p : Nat) (s so sr : Rng) (q : Nat) (a : ActP) (B : Option Addr) (d : Nat) (A1 : Option Addr) (x1 : List UInt8) : Prop := ∃ FP FO FR, Tri w v FP FO FR p s so sr ∧ Bes v FP FO FR q a B d A1 x1
/-- the rings and a call -/
def TrA (w v : World) (p : Nat) (s so sr : Rng) (q : Nat) (a : ActP) (B : Option Addr) (d : Nat) : Prop := TrX w v p s so sr q a B d none []
section
variable {w v v' : World} {p q : Nat} {s so sr s' : Rng} {a : ActP} {B A1 : Option Addr} {d : Nat} {x1 : List UInt8}
theorem TrX.bel (h : TrX w v p s so sr q a B d A1 x1) : Below w.heap.size w v := by obtain ⟨_, _, _, h, _⟩ := h; exact h.bel
theorem Tr0.bel (h : Tr0 w v p s so sr) : Below w.heap.size w v := by obtain ⟨_, _, _, h⟩ := h; exact h.bel
theorem TrX.zero (h : TrX w v p s so sr q a B d A1 x1) : Tr0 w v p s so sr := by obtain ⟨_, _, _, h, _⟩ := h; exact ⟨_, _, _, h⟩
theorem TrX.drewN (h : TrX w v p s so sr q a B d A1 x1) (n : Nat) : TrX w (v.drewN n) p s so sr q a B d A1 x1 := by
  obtain ⟨FP, FO, FR, h, hb⟩ := h
  exact ⟨FP, FO, FR, ⟨h.pp, h.po, ⟨h.pr.1.drewN n, h.pr.2⟩, h.dpo, h.dpr, h.dor, h.new, ⟨h.bel.os, h.bel.tape, h.bel.output, h.bel.size, h.bel.block⟩⟩, hb⟩
theorem TrX.cells (h : TrX w v p s so sr q a B d A1 x1) : v.cell? ⟨q, 0, none⟩ = some (.int .i64 a.way) ∧ v.cell? ⟨q, 1, none⟩ = some (.int .i64 a.n) ∧ v.cell? ⟨q, 2, none⟩ = some (.slice B a.x.length d) := by
  obtain ⟨FP, FO, FR, _, hb, _⟩ := h
  refine ⟨?_, ?_, ?_⟩ <;> rw [cell_of_row v q _ _ _ (0, 0) hb] <;> rfl
theorem TrX.res (h : TrX w v p s so sr q a B d A1 x1) : Rd v A1 x1 := by obtain ⟨_, _, _, _, _, h, _⟩ := h; exact h
theorem Bes.turn {FP FO FR GP GO GR G : Nat → Prop} (h : Bes v FP FO FR q a B d A1 x1) (o : Only G v v') (hG : ∀ k, G k → FP k ∨ FO k ∨ FR k) (hP : ∀ k, k < v.heap.size → GP k → FP k) (hO : ∀ k, k < v.heap.size → GO k → FO k) (hR : ∀ k, k < v.heap.size → GR k → FR k) : Bes v' GP GO GR q a B d A1 x1 := by
  obtain ⟨h1, h2, h3, h4⟩ := h
  have hq := lt_of_block h1
  have hn : ∀ k, ¬ FP k ∧ ¬ FO k ∧ ¬ FR k → ¬ G k := fun k hk hg => (hG k hg).elim hk.1 (fun h => h.elim hk.2.1 hk.2.2)
  exact ⟨(o.block q hq (hn q h3)).trans h1, h2.only o (fun k hk => hn k (h4 k hk).2), ⟨fun g => h3.1 (hP q hq g), fun g => h3.2.1 (hO q hq g), fun g => h3.2.2 (hR q hq g)⟩,
    fun k hk => ⟨Nat.lt_of_lt_of_le (h4 k hk).1 o.size, fun g => (h4 k hk).2.1 (hP k (h4 k hk).1 g), fun g => (h4 k hk).2.2.1 (hO k (h4 k hk).1 g), fun g => (h4 k hk).2.2.2 (hR k (h4 k hk).1 g)⟩⟩
theorem more_old {F : Nat → Prop} {k : Nat} (hk : k < v.heap.size) (h : more F v v' k) : F k := h.elim id (fun h => by omega)
theorem TrX.beside (h : TrX w v p s so sr q a B d A1 x1) (b : Below v.heap.size v v') : TrX w v' p s so sr q a B d A1 x1 := by
  obtain ⟨FP, FO, FR, h, hb⟩ := h
  exact ⟨FP, FO, FR, h.beside b, hb.turn (G := fun _ => False) (Only.of_below _ b) (fun _ h => h.elim) (fun _ _ h => h) (fun _ _ h => h) (fun _ _ h => h)⟩
theorem TrX.plain (h : TrX w v p s so sr q a B d A1 x1) : TrA w v p s so sr q a B d := by
  obtain ⟨FP, FO, FR, h, hb⟩ := h
  exact ⟨FP, FO, FR, h, hb.1, Rd.nil _ _, hb.2.2.1, fun k hk => by simp [blk] at hk⟩
theorem TrX.addP (h : TrX w v p s so sr q a B d A1 x1) (C : Option Addr) (e : Nat) (x : List UInt8) (hr : Rd v C x) (hd : x.length ≤ e) (hd' : e ≤ maxLen) :
    Calls Try.prog 10 #[.pointer (some ⟨p, 0, none⟩), .slice C x.length e] v fun r v' => r = .returned (.bool (s.fits x)) ∧ TrX w v' p (s.add x) so sr q a B d A1 x1 := by
  obtain ⟨FP, FO, FR, h, hb⟩ := h
  exact (add_calls h.pp C e x hr hd hd').mono fun _ v' ⟨h1, h2⟩ => ⟨h1, _, _, _, h.turnP h2, hb.turn h2.2 (fun _ h => .inl h) (fun _ hk h => more_old hk h) (fun _ _ h => h) (fun _ _ h => h)⟩
theorem TrX.addO (h : TrX w v p s so sr q a B d A1 x1) (C : Option Addr) (e : Nat) (x : List UInt8) (hr : Rd v C x) (hd : x.length ≤ e) (hd' : e ≤ maxLen) :
    Calls Try.prog 10 #[.pointer (some ⟨p + 1, 0, none⟩), .slice C x.length e] v fun r v' => r = .returned (.bool (so.fits x)) ∧ TrX w v' p s (so.add x) sr q a B d A1 x1 := by
  obtain ⟨FP, FO, FR, h, hb⟩ := h
  exact (add_calls h.po C e x hr hd hd').mono fun _ v' ⟨h1, h2⟩ => ⟨h1, _, _, _, h.turnO h2, hb.turn h2.2 (fun _ h => .inr (.inl h)) (fun _ _ h => h) (fun _ hk h => more_old hk h) (fun _ _ h => h)⟩
theorem TrX.addR (h : TrX w v p s so sr q a B d A1 x1) (C : Option Addr) (e : Nat) (x : List UInt8) (hr : Rd v C x) (hd : x.length ≤ e) (hd' : e ≤ maxLen) (hx : x.length ≤ 1048576) :
    Calls Try.prog 11 #[.pointer (some ⟨p + 2, 0, none⟩), .slice C x.length e] v fun r v' => r = .returned (.bool (sr.fits x)) ∧ TrX w v' p s so (sr.add x) q a B d A1 x1 := by
  obtain ⟨FP, FO, FR, h, hb⟩ := h
  exact (addR_calls h.pr C e x hr hd hd' hx).mono fun _ v' ⟨h1, h2⟩ => ⟨h1, _, _, _, h.turnR h2, hb.turn h2.2 (fun _ h => .inr (.inr h)) (fun _ _ h => h) (fun _ _ h => h) (fun _ hk h => more_old hk h)⟩
theorem TrX.clearP (h : TrX w v p s so sr q a B d A1 x1) :
    Calls Try.prog 14 #[.pointer (some ⟨p, 0, none⟩)] v fun r v' => r = .returned (.int .i64 (s.gone : Int)) ∧ TrX w v' p s.clear so sr q a B d A1 x1 := by
  obtain ⟨FP, FO, FR, h, hb⟩ := h
  exact (clear_calls h.pp).mono fun _ v' ⟨h1, h2⟩ => ⟨h1, _, _, _, h.turnP h2, hb.turn h2.2 (fun _ h => .inl h) (fun _ hk h => more_old hk h) (fun _ _ h => h) (fun _ _ h => h)⟩
theorem TrX.clearR (h : TrX w v p s so sr q a B d A1 x1) :
    Calls Try.prog 15 #[.pointer (some ⟨p + 2, 0, none⟩)] v fun r v' => r = .returned (.int .i64 (sr.gone : Int)) ∧ TrX w v' p s so sr.clear q a B d A1 x1 := by
  obtain ⟨FP, FO, FR, h, hb⟩ := h
  exact (clearR_calls h.pr).mono fun _ v' ⟨h1, h2⟩ => ⟨h1, _, _, _, h.turnR h2, hb.turn h2.2 (fun _ h => .inr (.inr h)) (fun _ _ h => h) (fun _ _ h => h) (fun _ hk h => more_old hk h)⟩
theorem TrX.takeP (h : TrX w v p s so sr q a B d A1 x1) (n : Int) :
    Calls Try.prog 12 #[.pointer (some ⟨p, 0, none⟩), .int .i64 n] v fun r v' => ∃ A c, r = .returned (.slice A (s.takeL n).length c) ∧ TrX w v' p (s.take n) so sr q a B d A (s.takeL n) := by
  obtain ⟨FP, FO, FR, h, hb⟩ := h
  refine (take_calls h.pp n).mono ?_
  rintro _ v' ⟨⟨A, c, rfl, own⟩, h2, h3⟩
  have hb' := hb.turn h3 (fun _ h => .inl h) (fun _ _ h => h) (fun _ _ h => h) (fun _ _ h => h)
  exact ⟨A, c, rfl, FP, FO, FR, h.sameP h2 h3, hb'.1, own.rd, hb'.2.2.1, fun k hk => ⟨(own.blk_ge k hk).2, h.lt (own.blk_ge k hk).1⟩⟩
theorem TrX.takeR (h : TrX w v p s so sr q a B d A1 x1) (n : Int) (hn : n ≤ 9223372036854775807) :
    Calls Try.prog 13 #[.pointer (some ⟨p + 2, 0, none⟩), .int .i64 n] v fun r v' => ∃ A c, r = .returned (.slice A (sr.takeL n).length c) ∧ Rd v' A (sr.takeL n) ∧ TrX w v' p s so (sr.take n) q a B d A1 x1 := by
  obtain ⟨FP, FO, FR, h, hb⟩ := h
  refine (takeR_calls h.pr n hn).mono ?_
  rintro _ v' ⟨⟨A, c, rfl, hr⟩, h2, h3⟩
  exact ⟨A, c, rfl, hr, FP, FO, FR, h.sameR h2 h3, hb.turn h3 (fun _ h => .inr (.inr h)) (fun _ _ h => h) (fun _ _ h => h) (fun _ _ h => h)⟩
theorem TrX.lenP (h : TrX w v p s so sr q a B d A1 x1) : Calls Try.prog 16 #[.pointer (some ⟨p, 0, none⟩)] v fun e v' => e = .returned (.int .i64 (s.o.length : Int)) ∧ v' = v := by
  obtain ⟨FP, FO, FR, h, hb⟩ := h
  exact len_calls h.pp
theorem TrX.lenR (h : TrX w v p s so sr q a B d A1 x1) : Calls Try.prog 17 #[.pointer (some ⟨p + 2, 0, none⟩)] v fun e v' => e = .returned (.int .i64 (sr.o.length : Int)) ∧ v' = v := by
  obtain ⟨FP, FO, FR, h, hb⟩ := h
  exact lenR_calls h.pr.1 h.pr.lens.1 h.pr.lens.2
theorem TrX.dropP (h : TrX w v p s so sr q a B d A1 x1) : Calls Try.prog 18 #[.pointer (some ⟨p, 0, none⟩)] v fun e v' => e = .returned (.int .i64 (s.D : Int)) ∧ v' = v := by
  obtain ⟨FP, FO, FR, h, hb⟩ := h
  exact dropped_calls h.pp
theorem TrX.dropR (h : TrX w v p s so sr q a B d A1 x1) : Calls Try.prog 19 #[.pointer (some ⟨p + 2, 0, none⟩)] v fun e v' => e = .returned (.int .i64 (sr.D : Int)) ∧ v' = v := by
  obtain ⟨FP, FO, FR, h, hb⟩ := h
  exact droppedR_calls h.pr
/-- a call comes -/
theorem Tr0.call (h : Tr0 w v p s so sr) (a : ActP) (B : Option Addr) (d : Nat) : TrA w (v.alloc (.cells (ac a B d) 30)) p s so sr v.heap.size a B d := by
  obtain ⟨FP, FO, FR, h⟩ := h
  exact ⟨FP, FO, FR, h.beside ((Below.refl _ _).alloc (Nat.le_refl _) _), heap_alloc_new v _, Rd.nil _ _, h.lt (Nat.le_refl _), fun k hk => by simp [blk] at hk⟩
end
/-- three new rings -/
theorem Tr0.start {w W : World} (hb : Below w.heap.size w W) (r1 r2 r3 : Int) :
    Tr0 w (((W.alloc (.cells (rc (newRng r1).R none 0 0 0 none 0 0 0) 41)).alloc (.cells (rc (newRng r2).R none 0 0 0 none 0 0 0) 41)).alloc (.cells (qc (newRng r3).R none 0 0 false 0) 44)) W.heap.size (newRng r1) (newRng r2) (newRng r3) := by
  have e1 : ∀ (V : World) (o : Obj), (V.alloc o).heap.size = V.heap.size + 1 := fun V o => by simp
  have b1 := fun (V : World) (o : Obj) => (Below.refl V.heap.size V).alloc (Nat.le_refl _) o
  have p1 := PQ.fresh W r1
  have p2 := PQ.fresh (W.alloc (.cells (rc (newRng r1).R none 0 0 0 none 0 0 0) 41)) r2
  have p3 := PX.fresh ((W.alloc (.cells (rc (newRng r1).R none 0 0 0 none 0 0 0) 41)).alloc (.cells (rc (newRng r2).R none 0 0 0 none 0 0 0) 41)) r3
  rw [e1] at p2
  rw [e1, e1] at p3
  have hs := hb.size
  refine ⟨fun k => k = W.heap.size, fun k => k = W.heap.size + 1, fun k => k = W.heap.size + 2, ?_, ?_, p3, fun k h1 h2 => by omega, fun k h1 h2 => by omega, fun k h1 h2 => by omega, fun k h => by rcases h with h | h | h <;> omega, ?_⟩
  · exact (p1.only (G := fun _ => False) (Only.of_below _ (b1 _ _)) (fun _ _ h => h)).only (G := fun _ => False) (Only.of_below _ (b1 _ _)) (fun _ _ h => h)
  · exact p2.only (G := fun _ => False) (Only.of_below _ (b1 _ _)) (fun _ _ h => h)
  · exact ((hb.alloc hb.size _).alloc (by rw [e1]; omega) _).alloc (by rw [e1, e1]; omega) _
end Go.Proofs.Ytpjhehfhpeclhaa

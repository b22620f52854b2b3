/- Two orders of the program, one of the reference and a call side by side. No condition. -/
import Derived.Test.YtbalhpffdgbdgaaRoPut
import Derived.Test.YtbalhpffdgbdgaaRoTake
import Derived.Test.YtbalhpffdgbdgaaOrdAlive
import Derived.Test.YtbalhpffdgbdgaaActRowsQ
namespace Go.Proofs.Ytbalhpffdgbdgaa
open Go.RowKit
set_option linter.unusedVariables false

/-- the cells of a call -/
def ac (a : ActP) (B : Option Addr) (d : Nat) : Array Value := #[.int .i64 a.way, .int .i64 a.n, .slice B a.x.length d]
/-- An order of the program, another one, one of the reference; their memory lies apart, behind what was there before. -/
structure Tri (w v : World) (FP FO FR : Nat → Prop) (p po pr : Nat) (s so sr : Od) : Prop where
  pp : OdP v FP p s
  qo : OdP v FO po so
  qr : RoP v FR pr sr
  dpo : ∀ k, FP k → ¬ FO k
  dpr : ∀ k, FP k → ¬ FR k
  dor : ∀ k, FO k → ¬ FR k
  new : ∀ k, FP k ∨ FO k ∨ FR k → w.heap.size ≤ k
  bel : Below w.heap.size w v
section
variable {w v v' : World} {FP FO FR : Nat → Prop} {p po pr : Nat} {s so sr s' : Od}
theorem Tri.turnP (h : Tri w v FP FO FR p po pr s so sr) (t : OdTurn FP p s' v v') : Tri w v' (more FP v v') FO FR p po pr s' so sr :=
  ⟨t.1, h.qo.only t.2 (fun k hk hp => h.dpo k hp hk), h.qr.only t.2 (fun k hk hp => h.dpr k hp hk),
    fun k hk hF => hk.elim (fun hp => h.dpo k hp hF) (fun hn => by have := h.qo.lt k hF; omega), fun k hk hF => hk.elim (fun hp => h.dpr k hp hF) (fun hn => by have := h.qr.lt k hF; omega), h.dor,
    fun k hk => hk.elim (fun hk => hk.elim (fun hp => h.new k (.inl hp)) (fun hn => Nat.le_trans h.bel.size hn.1)) (fun hk => h.new k (.inr hk)), h.bel.trans (t.2.below (fun k hk => h.new k (.inl hk)) h.bel.size)⟩
theorem Tri.sameP (h : Tri w v FP FO FR p po pr s so sr) (hp : OdP v' FP p s') (o : Only FP v v') : Tri w v' FP FO FR p po pr s' so sr :=
  ⟨hp, h.qo.only o (fun k hk hp => h.dpo k hp hk), h.qr.only o (fun k hk hp => h.dpr k hp hk), h.dpo, h.dpr, h.dor, h.new, h.bel.trans (o.below (fun k hk => h.new k (.inl hk)) h.bel.size)⟩
theorem Tri.turnO (h : Tri w v FP FO FR p po pr s so sr) (t : OdTurn FO po s' v v') : Tri w v' FP (more FO v v') FR p po pr s s' sr :=
  ⟨h.pp.only t.2 (fun k hk => h.dpo k hk), t.1, h.qr.only t.2 (fun k hk hp => h.dor k hp hk),
    fun k hk hF => hF.elim (fun hp => h.dpo k hk hp) (fun hn => by have := h.pp.lt k hk; omega), h.dpr, fun k hk hF => hk.elim (fun hp => h.dor k hp hF) (fun hn => by have := h.qr.lt k hF; omega),
    fun k hk => hk.elim (fun hp => h.new k (.inl hp)) (fun hk => hk.elim (fun hk => hk.elim (fun hp => h.new k (.inr (.inl hp))) (fun hn => Nat.le_trans h.bel.size hn.1)) (fun hk => h.new k (.inr (.inr hk)))), h.bel.trans (t.2.below (fun k hk => h.new k (.inr (.inl hk))) h.bel.size)⟩
theorem Tri.sameO (h : Tri w v FP FO FR p po pr s so sr) (hp : OdP v' FO po s') (o : Only FO v v') : Tri w v' FP FO FR p po pr s s' sr :=
  ⟨h.pp.only o (fun k hk => h.dpo k hk), hp, h.qr.only o (fun k hk hp => h.dor k hp hk), h.dpo, h.dpr, h.dor, h.new, h.bel.trans (o.below (fun k hk => h.new k (.inr (.inl hk))) h.bel.size)⟩
theorem Tri.turnR (h : Tri w v FP FO FR p po pr s so sr) (t : RoTurn FR pr s' v v') : Tri w v' FP FO (more FR v v') p po pr s so s' :=
  ⟨h.pp.only t.2 (fun k hk => h.dpr k hk), h.qo.only t.2 (fun k hk => h.dor k hk), t.1, h.dpo,
    fun k hk hF => hF.elim (fun hp => h.dpr k hk hp) (fun hn => by have := h.pp.lt k hk; omega), fun k hk hF => hF.elim (fun hp => h.dor k hk hp) (fun hn => by have := h.qo.lt k hk; omega),
    fun k hk => hk.elim (fun hp => h.new k (.inl hp)) (fun hk => hk.elim (fun hk => h.new k (.inr (.inl hk))) (fun hk => hk.elim (fun hp => h.new k (.inr (.inr hp))) (fun hn => Nat.le_trans h.bel.size hn.1))), h.bel.trans (t.2.below (fun k hk => h.new k (.inr (.inr hk))) h.bel.size)⟩
theorem Tri.sameR (h : Tri w v FP FO FR p po pr s so sr) (hp : RoP v' FR pr s') (o : Only FR v v') : Tri w v' FP FO FR p po pr s so s' :=
  ⟨h.pp.only o (fun k hk => h.dpr k hk), h.qo.only o (fun k hk => h.dor k hk), hp, h.dpo, h.dpr, h.dor, h.new, h.bel.trans (o.below (fun k hk => h.new k (.inr (.inr hk))) h.bel.size)⟩
theorem Tri.beside (h : Tri w v FP FO FR p po pr s so sr) (b : Below v.heap.size v v') : Tri w v' FP FO FR p po pr s so sr :=
  have o : Only (fun _ => False) v v' := Only.of_below _ b
  ⟨h.pp.only o (fun _ _ h => h), h.qo.only o (fun _ _ h => h), h.qr.only o (fun _ _ h => h), h.dpo, h.dpr, h.dor, h.new, h.bel.trans (b.mono h.bel.size)⟩
theorem Tri.lt (h : Tri w v FP FO FR p po pr s so sr) {k : Nat} (hk : v.heap.size ≤ k) : ¬ FP k ∧ ¬ FO k ∧ ¬ FR k :=
  ⟨fun hF => by have := h.pp.lt k hF; omega, fun hF => by have := h.qo.lt k hF; omega, fun hF => by have := h.qr.lt k hF; omega⟩
end
/-- as Tri, whatever memory it is -/
def Tr0 (w v : World) (p po pr : Nat) (s so sr : Od) : Prop := ∃ FP FO FR, Tri w v FP FO FR p po pr s so sr
/-- the block q holds the call, apart from the orders -/
def Bes (v : World) (FP FO FR : Nat → Prop) (q : Nat) (a : ActP) (B : Option Addr) (d : Nat) : Prop :=
  v.heap[q]? = some (.cells (ac a B d) 30 (0, 0)) ∧ ¬ FP q ∧ ¬ FO q ∧ ¬ FR q
/-- the orders and a call -/
def TrA (w v : World) (p po pr : Nat) (s so sr : Od) (q : Nat) (a : ActP) (B : Option Addr) (d : Nat) : Prop := ∃ FP FO FR, Tri w v FP FO FR p po pr s so sr ∧ Bes v FP FO FR q a B d
section
variable {w v v' : World} {p po pr q : Nat} {s so sr s' : Od} {a : ActP} {B : Option Addr} {d : Nat}
theorem TrA.bel (h : TrA w v p po pr s so sr q a B d) : Below w.heap.size w v := by obtain ⟨_, _, _, h, _⟩ := h; exact h.bel
theorem Tr0.bel (h : Tr0 w v p po pr s so sr) : Below w.heap.size w v := by obtain ⟨_, _, _, h⟩ := h; exact h.bel
theorem TrA.zero (h : TrA w v p po pr s so sr q a B d) : Tr0 w v p po pr s so sr := by obtain ⟨_, _, _, h, _⟩ := h; exact ⟨_, _, _, h⟩
theorem TrA.drewN (h : TrA w v p po pr s so sr q a B d) (n : Nat) : TrA w (v.drewN n) p po pr s so sr q a B d := by
  obtain ⟨FP, FO, FR, h, hb⟩ := h
  exact ⟨FP, FO, FR, ⟨h.pp.drewN n, h.qo.drewN n, h.qr.drewN n, h.dpo, h.dpr, h.dor, h.new, ⟨h.bel.os, h.bel.tape, h.bel.output, h.bel.size, h.bel.block⟩⟩, hb⟩
theorem TrA.cells (h : TrA w v p po pr s so sr q a B d) : v.cell? ⟨q, 0, none⟩ = some (.int .i64 a.way) ∧ v.cell? ⟨q, 1, none⟩ = some (.int .i64 a.n) ∧ v.cell? ⟨q, 2, none⟩ = some (.slice B a.x.length d) := by
  obtain ⟨FP, FO, FR, _, hb, _⟩ := h
  refine ⟨?_, ?_, ?_⟩ <;> rw [cell_of_row v q _ _ _ (0, 0) hb] <;> rfl
theorem Bes.turn {FP FO FR GP GO GR G : Nat → Prop} (h : Bes v FP FO FR q a B d) (o : Only G v v') (hG : ∀ k, G k → FP k ∨ FO k ∨ FR k) (hP : ∀ k, k < v.heap.size → GP k → FP k) (hO : ∀ k, k < v.heap.size → GO k → FO k) (hR : ∀ k, k < v.heap.size → GR k → FR k) : Bes v' GP GO GR q a B d := by
  obtain ⟨h1, h3⟩ := h
  have hq := lt_of_block h1
  exact ⟨(o.block q hq (fun hg => (hG q hg).elim h3.1 (fun h => h.elim h3.2.1 h3.2.2))).trans h1, fun g => h3.1 (hP q hq g), fun g => h3.2.1 (hO q hq g), fun g => h3.2.2 (hR q hq g)⟩
theorem more_old {F : Nat → Prop} {k : Nat} (hk : k < v.heap.size) (h : more F v v' k) : F k := h.elim id (fun h => by omega)
theorem TrA.beside (h : TrA w v p po pr s so sr q a B d) (b : Below v.heap.size v v') : TrA w v' p po pr s so sr q a B d := by
  obtain ⟨FP, FO, FR, h, hb⟩ := h
  exact ⟨FP, FO, FR, h.beside b, hb.turn (G := fun _ => False) (Only.of_below _ b) (fun _ h => h.elim) (fun _ _ h => h) (fun _ _ h => h) (fun _ _ h => h)⟩
theorem TrA.putP (h : TrA w v p po pr s so sr q a B d) (hall : s.all ≤ 999999) (n : Int) (hn : I64 n) (C : Option Addr) (e : Nat) (x : List UInt8) (hr : Rd v C x) (hx : x.length ≤ 1048576) :
    Calls Try.prog 10 #[.pointer (some ⟨p, 0, none⟩), .int .i64 n, .slice C x.length e] v fun r v' => r = .returned (.int .i64 (s.putN n x)) ∧ TrA w v' p po pr (s.put n x) so sr q a B d := by
  obtain ⟨FP, FO, FR, h, hb⟩ := h
  exact (odPut_calls h.pp hall n hn C e x hr hx).mono fun _ v' ⟨h1, h2⟩ => ⟨h1, _, _, _, h.turnP h2, hb.turn h2.2 (fun _ h => .inl h) (fun _ hk h => more_old hk h) (fun _ _ h => h) (fun _ _ h => h)⟩
theorem TrA.putO (h : TrA w v p po pr s so sr q a B d) (hall : so.all ≤ 999999) (n : Int) (hn : I64 n) (C : Option Addr) (e : Nat) (x : List UInt8) (hr : Rd v C x) (hx : x.length ≤ 1048576) :
    Calls Try.prog 10 #[.pointer (some ⟨po, 0, none⟩), .int .i64 n, .slice C x.length e] v fun r v' => r = .returned (.int .i64 (so.putN n x)) ∧ TrA w v' p po pr s (so.put n x) sr q a B d := by
  obtain ⟨FP, FO, FR, h, hb⟩ := h
  exact (odPut_calls h.qo hall n hn C e x hr hx).mono fun _ v' ⟨h1, h2⟩ => ⟨h1, _, _, _, h.turnO h2, hb.turn h2.2 (fun _ h => .inr (.inl h)) (fun _ _ h => h) (fun _ hk h => more_old hk h) (fun _ _ h => h)⟩
theorem TrA.putR (h : TrA w v p po pr s so sr q a B d) (hall : sr.all ≤ 99999) (n : Int) (hn : I64 n) (C : Option Addr) (e : Nat) (x : List UInt8) (hr : Rd v C x) (hx : x.length ≤ 1048576) :
    Calls Try.prog 11 #[.pointer (some ⟨pr, 0, none⟩), .int .i64 n, .slice C x.length e] v fun r v' => r = .returned (.int .i64 (sr.putN n x)) ∧ TrA w v' p po pr s so (sr.put n x) q a B d := by
  obtain ⟨FP, FO, FR, h, hb⟩ := h
  exact (roPut_calls h.qr hall n hn C e x hr hx).mono fun _ v' ⟨h1, h2⟩ => ⟨h1, _, _, _, h.turnR h2, hb.turn h2.2 (fun _ h => .inr (.inr h)) (fun _ _ h => h) (fun _ _ h => h) (fun _ hk h => more_old hk h)⟩
theorem TrA.takeP (h : TrA w v p po pr s so sr q a B d) :
    Calls Try.prog 12 #[.pointer (some ⟨p, 0, none⟩)] v fun r v' => ∃ A c, r = .returned (.tuple #[.slice A s.takeX.length c, .bool s.takeB]) ∧ Rd v' A s.takeX ∧ TrA w v' p po pr s.take so sr q a B d := by
  obtain ⟨FP, FO, FR, h, hb⟩ := h
  exact (odTake_calls h.pp).mono fun _ v' ⟨A, c, h1, h2, h3, h4, _⟩ => ⟨A, c, h1, h2, _, _, _, h.sameP h3 h4, hb.turn h4 (fun _ h => .inl h) (fun _ _ h => h) (fun _ _ h => h) (fun _ _ h => h)⟩
theorem TrA.takeR (h : TrA w v p po pr s so sr q a B d) (hall : sr.all ≤ 100000) :
    Calls Try.prog 13 #[.pointer (some ⟨pr, 0, none⟩)] v fun r v' => ∃ A c, r = .returned (.tuple #[.slice A sr.takeX.length c, .bool sr.takeB]) ∧ Rd v' A sr.takeX ∧ TrA w v' p po pr s so sr.take q a B d ∧ ∀ X z, Rd v X z → Rd v' X z := by
  obtain ⟨FP, FO, FR, h, hb⟩ := h
  exact (roTake_calls h.qr hall).mono fun _ v' ⟨A, c, h1, h2, h3, h5⟩ => ⟨A, c, h1, h2, ⟨_, _, _, h.turnR h3, hb.turn h3.2 (fun _ h => .inr (.inr h)) (fun _ _ h => h) (fun _ _ h => h) (fun _ hk h => more_old hk h)⟩, h5⟩
theorem TrA.clearP (h : TrA w v p po pr s so sr q a B d) :
    Calls Try.prog 14 #[.pointer (some ⟨p, 0, none⟩)] v fun r v' => r = .returned (.tuple #[]) ∧ TrA w v' p po pr s.clear so sr q a B d := by
  obtain ⟨FP, FO, FR, h, hb⟩ := h
  exact (odClear_calls h.pp).mono fun _ v' ⟨h1, h3, h4⟩ => ⟨h1, _, _, _, h.sameP h3 h4, hb.turn h4 (fun _ h => .inl h) (fun _ _ h => h) (fun _ _ h => h) (fun _ _ h => h)⟩
theorem TrA.clearR (h : TrA w v p po pr s so sr q a B d) :
    Calls Try.prog 15 #[.pointer (some ⟨pr, 0, none⟩)] v fun r v' => r = .returned (.tuple #[]) ∧ TrA w v' p po pr s so sr.clear q a B d := by
  obtain ⟨FP, FO, FR, h, hb⟩ := h
  exact (roClear_calls h.qr).mono fun _ v' ⟨h1, h3, h4⟩ => ⟨h1, _, _, _, h.sameR h3 h4, hb.turn h4 (fun _ h => .inr (.inr h)) (fun _ _ h => h) (fun _ _ h => h) (fun _ _ h => h)⟩
theorem TrA.nextP (h : TrA w v p po pr s so sr q a B d) : Calls Try.prog 16 #[.pointer (some ⟨p, 0, none⟩)] v fun e v' => e = .returned (.int .i64 (s.e : Int)) ∧ v' = v := by
  obtain ⟨FP, FO, FR, h, hb⟩ := h
  exact odNext_calls h.pp
theorem TrA.nextR (h : TrA w v p po pr s so sr q a B d) : Calls Try.prog 17 #[.pointer (some ⟨pr, 0, none⟩)] v fun e v' => e = .returned (.int .i64 (sr.e : Int)) ∧ v' = v := by
  obtain ⟨FP, FO, FR, h, hb⟩ := h
  exact roNext_calls h.qr
theorem TrA.gapP (h : TrA w v p po pr s so sr q a B d) : Calls Try.prog 18 #[.pointer (some ⟨p, 0, none⟩)] v fun e v' => e = .returned (.bool s.gap) ∧ v' = v := by
  obtain ⟨FP, FO, FR, h, hb⟩ := h
  exact odGap_calls h.pp
theorem TrA.gapR (h : TrA w v p po pr s so sr q a B d) : Calls Try.prog 19 #[.pointer (some ⟨pr, 0, none⟩)] v fun e v' => e = .returned (.bool sr.gap) ∧ v' = v := by
  obtain ⟨FP, FO, FR, h, hb⟩ := h
  exact roGap_calls h.qr
/-- a call comes -/
theorem Tr0.call (h : Tr0 w v p po pr s so sr) (a : ActP) (B : Option Addr) (d : Nat) : TrA w (v.alloc (.cells (ac a B d) 30)) p po pr s so sr v.heap.size a B d := by
  obtain ⟨FP, FO, FR, h⟩ := h
  exact ⟨FP, FO, FR, h.beside ((Below.refl _ _).alloc (Nat.le_refl _) _), heap_alloc_new v _, h.lt (Nat.le_refl _)⟩
/-- two new orders of the program -/
def Two (w v : World) (p po : Nat) (s so : Od) : Prop := ∃ FP FO, OdP v FP p s ∧ OdP v FO po so ∧ (∀ k, FP k → ¬ FO k) ∧ (∀ k, FP k ∨ FO k → w.heap.size ≤ k) ∧ Below w.heap.size w v
theorem OdOne.new2 (h : OdOne w v p s) (m W : Int) :
    Calls Try.prog 8 #[.int .i64 m, .int .i64 W] v fun e v' => e = .returned (.pointer (some ⟨v.heap.size + 1, 0, none⟩)) ∧ Two w v' p (v.heap.size + 1) s (Od.new m W) := by
  obtain ⟨F, h1, h2, h3⟩ := h
  refine (odNew_calls m W v).mono ?_
  rintro e v' ⟨rfl, rfl⟩
  have b1 : Below v.heap.size v ((v.alloc (.map #[] 0)).alloc (.cells (odc (Od.new m W).m (Od.new m W).W 0 v.heap.size none 0 0) 46)) := ((Below.refl _ _).alloc (Nat.le_refl _) _).alloc (by simp) _
  exact ⟨rfl, F, _, h1.only (G := fun _ => False) (Only.of_below _ b1) (fun _ _ h => h), OdP.fresh v m W, fun k hk hF => by have := h1.lt k hk; omega, fun k hk => hk.elim (h2 k) (fun h => by have := h3.size; omega), h3.trans (b1.mono h3.size)⟩
theorem Two.new3 (h : Two w v p po s so) (m W : Int) :
    Calls Try.prog 9 #[.int .i64 m, .int .i64 W] v fun e v' => e = .returned (.pointer (some ⟨v.heap.size, 0, none⟩)) ∧ Tr0 w v' p po v.heap.size s so (Od.new m W) := by
  obtain ⟨FP, FO, h1, h2, h3, h4, h5⟩ := h
  refine (roNew_calls m W v).mono ?_
  rintro e v' ⟨rfl, rfl⟩
  have b1 : Below v.heap.size v (v.alloc (.cells (roc (Od.new m W).m (Od.new m W).W 0 none 0 0 none 0 0) 51)) := (Below.refl _ _).alloc (Nat.le_refl _) _
  refine ⟨rfl, FP, FO, fun k => k = v.heap.size, h1.only (G := fun _ => False) (Only.of_below _ b1) (fun _ _ h => h), h2.only (G := fun _ => False) (Only.of_below _ b1) (fun _ _ h => h), RoP.fresh v m W, h3, fun k hk e => by have := h1.lt k hk; omega, fun k hk e => by have := h2.lt k hk; omega, fun k hk => ?_, h5.trans (b1.mono h5.size)⟩
  rcases hk with hk | hk | hk
  · exact h4 k (.inl hk)
  · exact h4 k (.inr hk)
  · rw [hk]; exact h5.size
end
end Go.Proofs.Ytbalhpffdgbdgaa

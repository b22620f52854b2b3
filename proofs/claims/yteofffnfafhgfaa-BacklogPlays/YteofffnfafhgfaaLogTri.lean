/- Two logs of the program, one of the reference and a call side by side. No condition. -/
import Derived.Test.YteofffnfafhgfaaRlOut
import Derived.Test.YteofffnfafhgfaaLogAlive
import Derived.Test.YteofffnfafhgfaaActRowsQ
namespace Go.Proofs.Yteofffnfafhgfaa
open Go.RowKit
set_option linter.unusedVariables false

/-- the cells of a call -/
def ac (a : ActP) (B : Option Addr) (d : Nat) : Array Value := #[.int .i64 a.way, .int .i64 a.n, .slice B a.x.length d]
/-- From the block p on: a log of the program, another one, one of the reference; their memory lies apart, behind what was there before. -/
structure Tri (w v : World) (FP FO FR : Nat → Prop) (p : Nat) (s so sr : Lg) : Prop where
  pp : LgP v FP p s
  po : LgP v FO (p + 1) so
  pr : RlP v FR (p + 2) sr
  dpo : ∀ k, FP k → ¬ FO k
  dpr : ∀ k, FP k → ¬ FR k
  dor : ∀ k, FO k → ¬ FR k
  new : ∀ k, FP k ∨ FO k ∨ FR k → w.heap.size ≤ k
  bel : Below w.heap.size w v
section
variable {w v v' : World} {FP FO FR : Nat → Prop} {p : Nat} {s so sr s' : Lg}
theorem Tri.turnP (h : Tri w v FP FO FR p s so sr) (t : LgTurn FP p s' v v') : Tri w v' (more FP v v') FO FR p s' so sr :=
  ⟨t.1, h.po.only t.2 (fun k hk hp => h.dpo k hp hk), h.pr.only t.2 (fun k hk hp => h.dpr k hp hk),
    fun k hk hF => hk.elim (fun hp => h.dpo k hp hF) (fun hn => by have := h.po.lt k hF; omega), fun k hk hF => hk.elim (fun hp => h.dpr k hp hF) (fun hn => by have := h.pr.lt k hF; omega), h.dor,
    fun k hk => hk.elim (fun hk => hk.elim (fun hp => h.new k (.inl hp)) (fun hn => Nat.le_trans h.bel.size hn.1)) (fun hk => h.new k (.inr hk)), h.bel.trans (t.2.below (fun k hk => h.new k (.inl hk)) h.bel.size)⟩
theorem Tri.sameP (h : Tri w v FP FO FR p s so sr) (hp : LgP v' FP p s') (o : Only FP v v') : Tri w v' FP FO FR p s' so sr :=
  ⟨hp, h.po.only o (fun k hk hp => h.dpo k hp hk), h.pr.only o (fun k hk hp => h.dpr k hp hk), h.dpo, h.dpr, h.dor, h.new, h.bel.trans (o.below (fun k hk => h.new k (.inl hk)) h.bel.size)⟩
theorem Tri.turnO (h : Tri w v FP FO FR p s so sr) (t : LgTurn FO (p + 1) s' v v') : Tri w v' FP (more FO v v') FR p s s' sr :=
  ⟨h.pp.only t.2 (fun k hk => h.dpo k hk), t.1, h.pr.only t.2 (fun k hk hp => h.dor k hp hk),
    fun k hk hF => hF.elim (fun hp => h.dpo k hk hp) (fun hn => by have := h.pp.lt k hk; omega), h.dpr, fun k hk hF => hk.elim (fun hp => h.dor k hp hF) (fun hn => by have := h.pr.lt k hF; omega),
    fun k hk => hk.elim (fun hp => h.new k (.inl hp)) (fun hk => hk.elim (fun hk => hk.elim (fun hp => h.new k (.inr (.inl hp))) (fun hn => Nat.le_trans h.bel.size hn.1)) (fun hk => h.new k (.inr (.inr hk)))), h.bel.trans (t.2.below (fun k hk => h.new k (.inr (.inl hk))) h.bel.size)⟩
theorem Tri.sameO (h : Tri w v FP FO FR p s so sr) (hp : LgP v' FO (p + 1) s') (o : Only FO v v') : Tri w v' FP FO FR p s s' sr :=
  ⟨h.pp.only o (fun k hk => h.dpo k hk), hp, h.pr.only o (fun k hk hp => h.dor k hp hk), h.dpo, h.dpr, h.dor, h.new, h.bel.trans (o.below (fun k hk => h.new k (.inr (.inl hk))) h.bel.size)⟩
theorem Tri.turnR (h : Tri w v FP FO FR p s so sr) (t : RlTurn FR (p + 2) s' v v') : Tri w v' FP FO (more FR v v') p s so s' :=
  ⟨h.pp.only t.2 (fun k hk => h.dpr k hk), h.po.only t.2 (fun k hk => h.dor k hk), t.1, h.dpo,
    fun k hk hF => hF.elim (fun hp => h.dpr k hk hp) (fun hn => by have := h.pp.lt k hk; omega), fun k hk hF => hF.elim (fun hp => h.dor k hk hp) (fun hn => by have := h.po.lt k hk; omega),
    fun k hk => hk.elim (fun hp => h.new k (.inl hp)) (fun hk => hk.elim (fun hk => h.new k (.inr (.inl hk))) (fun hk => hk.elim (fun hp => h.new k (.inr (.inr hp))) (fun hn => Nat.le_trans h.bel.size hn.1))), h.bel.trans (t.2.below (fun k hk => h.new k (.inr (.inr hk))) h.bel.size)⟩
theorem Tri.sameR (h : Tri w v FP FO FR p s so sr) (hp : RlP v' FR (p + 2) s') (o : Only FR v v') : Tri w v' FP FO FR p s so s' :=
  ⟨h.pp.only o (fun k hk => h.dpr k hk), h.po.only o (fun k hk => h.dor k hk), hp, h.dpo, h.dpr, h.dor, h.new, h.bel.trans (o.below (fun k hk => h.new k (.inr (.inr hk))) h.bel.size)⟩
theorem Tri.beside (h : Tri w v FP FO FR p s so sr) (b : Below v.heap.size v v') : Tri w v' FP FO FR p s so sr :=
  have o : Only (fun _ => False) v v' := Only.of_below _ b
  ⟨h.pp.only o (fun _ _ h => h), h.po.only o (fun _ _ h => h), h.pr.only o (fun _ _ h => h), h.dpo, h.dpr, h.dor, h.new, h.bel.trans (b.mono h.bel.size)⟩
theorem Tri.lt (h : Tri w v FP FO FR p s so sr) {k : Nat} (hk : v.heap.size ≤ k) : ¬ FP k ∧ ¬ FO k ∧ ¬ FR k :=
  ⟨fun hF => by have := h.pp.lt k hF; omega, fun hF => by have := h.po.lt k hF; omega, fun hF => by have := h.pr.lt k hF; omega⟩
end
/-- as Tri, whatever memory it is -/
def Tr0 (w v : World) (p : Nat) (s so sr : Lg) : Prop := ∃ FP FO FR, Tri w v FP FO FR p s so sr
/-- the block q holds the call; the slice at A1 reads as x1; both lie apart from the logs -/
def Bes (v : World) (FP FO FR : Nat → Prop) (q : Nat) (a : ActP) (B : Option Addr) (d : Nat) (A1 : Option Addr) (x1 : List UInt8) : Prop :=
  v.heap[q]? = some (.cells (ac a B d) 30 (0, 0)) ∧ Rd v A1 x1 ∧ (¬ FP q ∧ ¬ FO q ∧ ¬ FR q) ∧ ∀ k, blk A1 = some k → k < v.heap.size ∧ ¬ FP k ∧ ¬ FO k ∧ ¬ FR k
/-- the logs, a call and a result -/
def TrX (w v : World) (p : Nat) (s so sr : Lg) (q : Nat) (a : ActP) (B : Option Addr) (d : Nat) (A1 : Option Addr) (x1 : List UInt8) : Prop := ∃ FP FO FR, Tri w v FP FO FR p s so sr ∧ Bes v FP FO FR q a B d A1 x1
/-- the logs and a call -/
def TrA (w v : World) (p : Nat) (s so sr : Lg) (q : Nat) (a : ActP) (B : Option Addr) (d : Nat) : Prop := TrX w v p s so sr q a B d none []
section
variable {w v v' : World} {p q : Nat} {s so sr s' : Lg} {a : ActP} {B A1 : Option Addr} {d : Nat} {x1 : List UInt8}
theorem TrX.bel (h : TrX w v p s so sr q a B d A1 x1) : Below w.heap.size w v := by obtain ⟨_, _, _, h, _⟩ := h; exact h.bel
theorem Tr0.bel (h : Tr0 w v p s so sr) : Below w.heap.size w v := by obtain ⟨_, _, _, h⟩ := h; exact h.bel
theorem TrX.okP (h : TrX w v p s so sr q a B d A1 x1) : s.Ok := by obtain ⟨_, _, _, h, _⟩ := h; exact h.pp.ok
theorem TrX.zero (h : TrX w v p s so sr q a B d A1 x1) : Tr0 w v p s so sr := by obtain ⟨_, _, _, h, _⟩ := h; exact ⟨_, _, _, h⟩
theorem TrX.drewN (h : TrX w v p s so sr q a B d A1 x1) (n : Nat) : TrX w (v.drewN n) p s so sr q a B d A1 x1 := by
  obtain ⟨FP, FO, FR, h, hb⟩ := h
  exact ⟨FP, FO, FR, ⟨h.pp.drewN n, h.po.drewN n, h.pr.drewN n, h.dpo, h.dpr, h.dor, h.new, ⟨h.bel.os, h.bel.tape, h.bel.output, h.bel.size, h.bel.block⟩⟩, hb⟩
theorem TrX.cells (h : TrX w v p s so sr q a B d A1 x1) : v.cell? ⟨q, 0, none⟩ = some (.int .i64 a.way) ∧ v.cell? ⟨q, 1, none⟩ = some (.int .i64 a.n) ∧ v.cell? ⟨q, 2, none⟩ = some (.slice B a.x.length d) := by
  obtain ⟨FP, FO, FR, _, hb, _⟩ := h
  refine ⟨?_, ?_, ?_⟩ <;> rw [cell_of_row v q _ _ _ (0, 0) hb] <;> rfl
theorem TrX.res (h : TrX w v p s so sr q a B d A1 x1) : Rd v A1 x1 := by obtain ⟨_, _, _, _, _, h, _⟩ := h; exact h
theorem Bes.turn {FP FO FR GP GO GR G : Nat → Prop} (h : Bes v FP FO FR q a B d A1 x1) (o : Only G v v') (hG : ∀ k, G k → FP k ∨ FO k ∨ FR k) (hP : ∀ k, k < v.heap.size → GP k → FP k) (hO : ∀ k, k < v.heap.size → GO k → FO k) (hR : ∀ k, k < v.heap.size → GR k → FR k) : Bes v' GP GO GR q a B d A1 x1 := by
  obtain ⟨h1, h2, h3, h4⟩ := h
  have hq := lt_of_block h1
  have hn : ∀ k, ¬ FP k ∧ ¬ FO k ∧ ¬ FR k → ¬ G k := fun k hk hg => (hG k hg).elim hk.1 (fun h => h.elim hk.2.1 hk.2.2)
  exact ⟨(o.block q hq (hn q h3)).trans h1, h2.only o (fun k hk => hn k (h4 k hk).2), ⟨fun g => h3.1 (hP q hq g), fun g => h3.2.1 (hO q hq g), fun g => h3.2.2 (hR q hq g)⟩,
    fun k hk => ⟨Nat.lt_of_lt_of_le (h4 k hk).1 o.size, fun g => (h4 k hk).2.1 (hP k (h4 k hk).1 g), fun g => (h4 k hk).2.2.1 (hO k (h4 k hk).1 g), fun g => (h4 k hk).2.2.2 (hR k (h4 k hk).1 g)⟩⟩
theorem more_old {F : Nat → Prop} {k : Nat} (hk : k < v.heap.size) (h : more F v v' k) : F k := h.elim id (fun h => by omega)
theorem TrX.beside (h : TrX w v p s so sr q a B d A1 x1) (b : Below v.heap.size v v') : TrX w v' p s so sr q a B d A1 x1 := by
  obtain ⟨FP, FO, FR, h, hb⟩ := h
  exact ⟨FP, FO, FR, h.beside b, hb.turn (G := fun _ => False) (Only.of_below _ b) (fun _ h => h.elim) (fun _ _ h => h) (fun _ _ h => h) (fun _ _ h => h)⟩
theorem TrX.plain (h : TrX w v p s so sr q a B d A1 x1) : TrA w v p s so sr q a B d := by
  obtain ⟨FP, FO, FR, h, hb⟩ := h
  exact ⟨FP, FO, FR, h, hb.1, Rd.nil _ _, hb.2.2.1, fun k hk => by simp [blk] at hk⟩
theorem TrX.addP (h : TrX w v p s so sr q a B d A1 x1) (C : Option Addr) (e : Nat) (x : List UInt8) (hr : Rd v C x) (hx : x.length ≤ 1048576) :
    Calls Try.prog 10 #[.pointer (some ⟨p, 0, none⟩), .slice C x.length e] v fun r v' => r = .returned (.int .i64 s.addE) ∧ TrX w v' p (s.add x) so sr q a B d A1 x1 := by
  obtain ⟨FP, FO, FR, h, hb⟩ := h
  exact (lgAdd_calls h.pp C e x hr hx).mono fun _ v' ⟨h1, h2⟩ => ⟨h1, _, _, _, h.turnP h2, hb.turn h2.2 (fun _ h => .inl h) (fun _ hk h => more_old hk h) (fun _ _ h => h) (fun _ _ h => h)⟩
theorem TrX.addO (h : TrX w v p s so sr q a B d A1 x1) (C : Option Addr) (e : Nat) (x : List UInt8) (hr : Rd v C x) (hx : x.length ≤ 1048576) :
    Calls Try.prog 10 #[.pointer (some ⟨p + 1, 0, none⟩), .slice C x.length e] v fun r v' => r = .returned (.int .i64 so.addE) ∧ TrX w v' p s (so.add x) sr q a B d A1 x1 := by
  obtain ⟨FP, FO, FR, h, hb⟩ := h
  exact (lgAdd_calls h.po C e x hr hx).mono fun _ v' ⟨h1, h2⟩ => ⟨h1, _, _, _, h.turnO h2, hb.turn h2.2 (fun _ h => .inr (.inl h)) (fun _ _ h => h) (fun _ hk h => more_old hk h) (fun _ _ h => h)⟩
theorem TrX.addR (h : TrX w v p s so sr q a B d A1 x1) (C : Option Addr) (e : Nat) (x : List UInt8) (hr : Rd v C x) (hx : x.length ≤ 1048576) :
    Calls Try.prog 13 #[.pointer (some ⟨p + 2, 0, none⟩), .slice C x.length e] v fun r v' => r = .returned (.int .i64 sr.addE) ∧ TrX w v' p s so (sr.add x) q a B d A1 x1 := by
  obtain ⟨FP, FO, FR, h, hb⟩ := h
  exact (rlAdd_calls h.pr C e x hr hx).mono fun _ v' ⟨h1, h2⟩ => ⟨h1, _, _, _, h.turnR h2, hb.turn h2.2 (fun _ h => .inr (.inr h)) (fun _ _ h => h) (fun _ _ h => h) (fun _ hk h => more_old hk h)⟩
theorem TrX.nextO (h : TrX w v p s so sr q a B d A1 x1) :
    Calls Try.prog 11 #[.pointer (some ⟨p + 1, 0, none⟩)] v fun r v' => ∃ i A n c z, r = .returned (.tuple #[.int .i64 i, .slice A n c, .bool z]) ∧ TrX w v' p s so.next sr q a B d A1 x1 := by
  obtain ⟨FP, FO, FR, h, hb⟩ := h
  exact (lgNext_calls' h.po).mono fun _ v' ⟨A, c, h1, h2, h3, h4⟩ => ⟨_, A, _, c, _, h1, _, _, _, h.sameO h3 h4, hb.turn h4 (fun _ h => .inr (.inl h)) (fun _ _ h => h) (fun _ _ h => h) (fun _ _ h => h)⟩
theorem TrX.nextP (h : TrX w v p s so sr q a B d A1 x1) :
    Calls Try.prog 11 #[.pointer (some ⟨p, 0, none⟩)] v fun r v' => ∃ A c, r = .returned (.tuple #[.int .i64 (s.nextN : Int), .slice A s.nextX.length c, .bool (!s.stop)]) ∧ TrX w v' p s.next so sr q a B d A s.nextX := by
  obtain ⟨FP, FO, FR, h, hb⟩ := h
  refine (lgNext_calls' h.pp).mono ?_
  rintro _ v' ⟨A, c, rfl, own, h3, h4⟩
  have hb' := hb.turn h4 (fun _ h => .inl h) (fun _ _ h => h) (fun _ _ h => h) (fun _ _ h => h)
  exact ⟨A, c, rfl, FP, FO, FR, h.sameP h3 h4, hb'.1, own.rd, hb'.2.2.1, fun k hk => ⟨(own.blk_ge k hk).2, h.lt (own.blk_ge k hk).1⟩⟩
theorem TrX.nextR (h : TrX w v p s so sr q a B d A1 x1) :
    Calls Try.prog 14 #[.pointer (some ⟨p + 2, 0, none⟩)] v fun r v' => ∃ A c, r = .returned (.tuple #[.int .i64 (sr.nextN : Int), .slice A sr.nextX.length c, .bool (!sr.stop)]) ∧ Rd v' A sr.nextX ∧ TrX w v' p s so sr.next q a B d A1 x1 := by
  obtain ⟨FP, FO, FR, h, hb⟩ := h
  exact (rlNext_calls h.pr).mono fun _ v' ⟨A, c, h1, hr, h2⟩ => ⟨A, c, h1, hr, _, _, _, h.turnR h2, hb.turn h2.2 (fun _ h => .inr (.inr h)) (fun _ _ h => h) (fun _ _ h => h) (fun _ hk h => more_old hk h)⟩
theorem TrX.ackP (h : TrX w v p s so sr q a B d A1 x1) (k : Int) (hk : I64 k) :
    Calls Try.prog 15 #[.pointer (some ⟨p, 0, none⟩), .int .i64 k] v fun r v' => r = .returned (.tuple #[.int .i64 (s.ackN k : Int), .bool (s.hit k)]) ∧ TrX w v' p (s.ack k) so sr q a B d A1 x1 := by
  obtain ⟨FP, FO, FR, h, hb⟩ := h
  exact (lgAck_calls h.pp k hk).mono fun _ v' ⟨h1, h3, h4⟩ => ⟨h1, _, _, _, h.sameP h3 h4, hb.turn h4 (fun _ h => .inl h) (fun _ _ h => h) (fun _ _ h => h) (fun _ _ h => h)⟩
theorem TrX.ackR (h : TrX w v p s so sr q a B d A1 x1) (k : Int) (hk : I64 k) :
    Calls Try.prog 16 #[.pointer (some ⟨p + 2, 0, none⟩), .int .i64 k] v fun r v' => r = .returned (.tuple #[.int .i64 (sr.ackN k : Int), .bool (sr.hit k)]) ∧ TrX w v' p s so (sr.ack k) q a B d A1 x1 := by
  obtain ⟨FP, FO, FR, h, hb⟩ := h
  exact (rlAck_calls h.pr k hk).mono fun _ v' ⟨h1, h2⟩ => ⟨h1, _, _, _, h.turnR h2, hb.turn h2.2 (fun _ h => .inr (.inr h)) (fun _ _ h => h) (fun _ _ h => h) (fun _ hk h => more_old hk h)⟩
theorem TrX.bodyP (h : TrX w v p s so sr q a B d A1 x1) (k : Int) (hk : I64 k) :
    Calls Try.prog 17 #[.pointer (some ⟨p, 0, none⟩), .int .i64 k] v fun r v' => ∃ A c, r = .returned (.tuple #[.slice A (s.body k).length c, .bool (s.has k)]) ∧ TrX w v' p s so sr q a B d A (s.body k) := by
  obtain ⟨FP, FO, FR, h, hb⟩ := h
  refine (lgBody_calls h.pp k hk).mono ?_
  rintro _ v' ⟨A, c, rfl, own, bel⟩
  have hb' := hb.turn (Only.of_below (fun _ => False) bel) (fun _ h => h.elim) (fun _ _ h => h) (fun _ _ h => h) (fun _ _ h => h)
  exact ⟨A, c, rfl, FP, FO, FR, h.beside bel, hb'.1, own.rd, hb'.2.2.1, fun k hk => ⟨(own.blk_ge k hk).2, h.lt (own.blk_ge k hk).1⟩⟩
theorem TrX.bodyR (h : TrX w v p s so sr q a B d A1 x1) (k : Int) (hk : I64 k) :
    Calls Try.prog 18 #[.pointer (some ⟨p + 2, 0, none⟩), .int .i64 k] v fun r v' => ∃ A c, r = .returned (.tuple #[.slice A (sr.body k).length c, .bool (sr.has k)]) ∧ Rd v' A (sr.body k) ∧ TrX w v' p s so sr q a B d A1 x1 := by
  have h0 := h
  obtain ⟨FP, FO, FR, h, hb⟩ := h
  exact (rlBody_calls h.pr k hk).mono fun _ v' ⟨A, c, h1, hr, bel⟩ => ⟨A, c, h1, hr, h0.beside bel⟩
theorem TrX.clearP (h : TrX w v p s so sr q a B d A1 x1) :
    Calls Try.prog 19 #[.pointer (some ⟨p, 0, none⟩)] v fun r v' => r = .returned (.int .i64 (s.l.length : Int)) ∧ TrX w v' p s.clear so sr q a B d A1 x1 := by
  obtain ⟨FP, FO, FR, h, hb⟩ := h
  exact (lgClear_calls h.pp).mono fun _ v' ⟨h1, h3, h4⟩ => ⟨h1, _, _, _, h.sameP h3 h4, hb.turn h4 (fun _ h => .inl h) (fun _ _ h => h) (fun _ _ h => h) (fun _ _ h => h)⟩
theorem TrX.clearR (h : TrX w v p s so sr q a B d A1 x1) :
    Calls Try.prog 20 #[.pointer (some ⟨p + 2, 0, none⟩)] v fun r v' => r = .returned (.int .i64 (sr.l.length : Int)) ∧ TrX w v' p s so sr.clear q a B d A1 x1 := by
  obtain ⟨FP, FO, FR, h, hb⟩ := h
  exact (rlClear_calls h.pr).mono fun _ v' ⟨h1, h3, h4⟩ => ⟨h1, _, _, _, h.sameR h3 h4, hb.turn h4 (fun _ h => .inr (.inr h)) (fun _ _ h => h) (fun _ _ h => h) (fun _ _ h => h)⟩
theorem TrX.outP (h : TrX w v p s so sr q a B d A1 x1) : Calls Try.prog 22 #[.pointer (some ⟨p, 0, none⟩)] v fun r v' => ∃ A c, r = .returned (.slice A s.out.length c) ∧ NOwn 3 .i64 v' v.heap.size A c s.out ∧ TrX w v' p s so sr q a B d A1 x1 := by
  have h0 := h
  obtain ⟨FP, FO, FR, h, hb⟩ := h
  exact (lgOut_calls h.pp).mono fun _ v' ⟨A, c, h1, h2, h3⟩ => ⟨A, c, h1, h2, h0.beside h3⟩
theorem TrX.outR (h : TrX w v p s so sr q a B d A1 x1) {u : Nat} {A2 : Option Addr} {c2 : Nat} {L : List Nat} (hL : NOwn 3 .i64 v u A2 c2 L) : Calls Try.prog 23 #[.pointer (some ⟨p + 2, 0, none⟩)] v fun r v' => ∃ A c, r = .returned (.slice A sr.out.length c) ∧ NOwn 3 .i64 v' v.heap.size A c sr.out ∧ NOwn 3 .i64 v' u A2 c2 L ∧ TrX w v' p s so sr q a B d A1 x1 := by
  have h0 := h
  obtain ⟨FP, FO, FR, h, hb⟩ := h
  exact (rlOut_calls h.pr).mono fun _ v' ⟨A, c, h1, h2, h3⟩ => ⟨A, c, h1, h2, hL.only (F := fun _ => False) (Only.of_below _ h3) (fun _ _ h => h), h0.beside h3⟩
theorem TrX.lenP (h : TrX w v p s so sr q a B d A1 x1) : Calls Try.prog 24 #[.pointer (some ⟨p, 0, none⟩)] v fun e v' => e = .returned (.int .i64 (s.l.length : Int)) ∧ v' = v := by
  obtain ⟨FP, FO, FR, h, hb⟩ := h
  exact lgLen_calls h.pp
theorem TrX.lenR (h : TrX w v p s so sr q a B d A1 x1) : Calls Try.prog 25 #[.pointer (some ⟨p + 2, 0, none⟩)] v fun e v' => e = .returned (.int .i64 (sr.l.length : Int)) ∧ ∃ n, v' = v.drewN n := by
  obtain ⟨FP, FO, FR, h, hb⟩ := h
  exact rlLen_calls h.pr
/-- a call comes -/
theorem Tr0.call (h : Tr0 w v p s so sr) (a : ActP) (B : Option Addr) (d : Nat) : TrA w (v.alloc (.cells (ac a B d) 30)) p s so sr v.heap.size a B d := by
  obtain ⟨FP, FO, FR, h⟩ := h
  exact ⟨FP, FO, FR, h.beside ((Below.refl _ _).alloc (Nat.le_refl _) _), heap_alloc_new v _, Rd.nil _ _, h.lt (Nat.le_refl _), fun k hk => by simp [blk] at hk⟩
end
/-- three new logs -/
theorem Tr0.start {w W : World} (hb : Below w.heap.size w W) (m n k m2 n2 k2 : Int) :
    Tr0 w (((W.alloc (.cells (lgc (Lg.new m n k).m (Lg.new m n k).W (Lg.new m n k).Q 0 0 none 0 0) 53)).alloc (.cells (lgc (Lg.new m2 n2 k2).m (Lg.new m2 n2 k2).W (Lg.new m2 n2 k2).Q 0 0 none 0 0) 53)).alloc (.cells (rlc (Lg.new m n k).m (Lg.new m n k).W (Lg.new m n k).Q 0 none 0 0 none 0 0) 58)) W.heap.size (Lg.new m n k) (Lg.new m2 n2 k2) (Lg.new m n k) := by
  have e1 : ∀ (V : World) (o : Obj), (V.alloc o).heap.size = V.heap.size + 1 := fun V o => by simp
  have b1 := fun (V : World) (o : Obj) => (Below.refl V.heap.size V).alloc (Nat.le_refl _) o
  have p1 := LgP.fresh W m n k
  have p2 := LgP.fresh (W.alloc (.cells (lgc (Lg.new m n k).m (Lg.new m n k).W (Lg.new m n k).Q 0 0 none 0 0) 53)) m2 n2 k2
  have p3 := RlP.fresh ((W.alloc (.cells (lgc (Lg.new m n k).m (Lg.new m n k).W (Lg.new m n k).Q 0 0 none 0 0) 53)).alloc (.cells (lgc (Lg.new m2 n2 k2).m (Lg.new m2 n2 k2).W (Lg.new m2 n2 k2).Q 0 0 none 0 0) 53)) m n k
  rw [e1] at p2
  rw [e1, e1] at p3
  have hs := hb.size
  refine ⟨fun k => k = W.heap.size, fun k => k = W.heap.size + 1, fun k => k = W.heap.size + 2, ?_, ?_, p3, fun k h1 h2 => by omega, fun k h1 h2 => by omega, fun k h1 h2 => by omega, fun k h => by rcases h with h | h | h <;> omega, ?_⟩
  · exact (p1.only (G := fun _ => False) (Only.of_below _ (b1 _ _)) (fun _ _ h => h)).only (G := fun _ => False) (Only.of_below _ (b1 _ _)) (fun _ _ h => h)
  · exact p2.only (G := fun _ => False) (Only.of_below _ (b1 _ _)) (fun _ _ h => h)
  · exact ((hb.alloc hb.size _).alloc (by rw [e1]; omega) _).alloc (by rw [e1, e1]; omega) _
end Go.Proofs.Yteofffnfafhgfaa

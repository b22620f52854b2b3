/- Package arq walked, part 4 of 15 (merged texts: AqMem, CtlSmall, CtlRight, CtlBytes, CatThree, AqPut). No condition. -/
import Derived.Test.YtgkdabllaankcaaG1
import Derived.Test.YtgkdabllaankcaaG3
import Derived.Test.YtgkdabllaankcaaG2
import Derived.Deep.RegionHeldLaw
import Derived.Deep.RegionLaw
/- One end of a session in memory: its fields, its log, its order, its outputs, its indications; one field that turns. No condition. -/
namespace Go.Proofs.Ytgkdabllaankcaa
open Go.RowKit
set_option linter.unusedVariables false

theorem aqInt : ET 22 3 (.int .i64 0) 8 := ⟨Try.underlying22, by kernel_rfl, rfl, by decide⟩
def nvi (x : Nat) : Value := .int .i64 (x : Int)
/-- where the rows of an end lie -/
structure Aw where
  A : Option Addr
  c : Nat
  B : Nat
  Ar : Option Addr
  cr : Nat
  Ao : Option Addr
  co : Nat
  Ai : Option Addr
  ci : Nat
/-- the cells of an end -/
def aqc (s : Aq) (p : Aw) : Array Value :=
  #[.int .i64 (s.m : Int), .int .i64 (s.t1 : Int), .int .i64 (s.n2 : Int), .int .i64 (s.sz : Int), .int .i64 (s.st : Int), .int .i64 (s.tg : Int),
    .int .i64 (s.lg.m : Int), .int .i64 (s.lg.W : Int), .int .i64 (s.lg.Q : Int), .int .i64 (s.lg.f : Int), .int .i64 (s.lg.nx : Int), .slice p.A s.lg.l.length p.c,
    .int .i64 (s.od.m : Int), .int .i64 (s.od.W : Int), .int .i64 (s.od.e : Int), .map (some p.B), .slice p.Ar s.od.r.length p.cr,
    .int .i64 (s.lf : Int), .int .i64 (s.tr : Int), .bool s.rj, .slice p.Ao s.os.length p.co, .slice p.Ai s.is.length p.ci, .int .i64 (s.sn : Int), .int .i64 (s.ak : Int), .int .i64 (s.lo : Int)]
/-- what stands around the log; around the order -/
def aqRl (s : Aq) (p : Aw) : Rl :=
  ⟨.int .i64 (s.m : Int), .int .i64 (s.t1 : Int), .int .i64 (s.n2 : Int), .int .i64 (s.sz : Int), .int .i64 (s.st : Int), .int .i64 (s.tg : Int),
    .int .i64 (s.od.m : Int), .int .i64 (s.od.W : Int), .int .i64 (s.od.e : Int), .map (some p.B), .slice p.Ar s.od.r.length p.cr,
    .int .i64 (s.lf : Int), .int .i64 (s.tr : Int), .bool s.rj, .slice p.Ao s.os.length p.co, .slice p.Ai s.is.length p.ci, .int .i64 (s.sn : Int), .int .i64 (s.ak : Int), .int .i64 (s.lo : Int)⟩
def aqRo (s : Aq) (p : Aw) : Ro :=
  ⟨.int .i64 (s.m : Int), .int .i64 (s.t1 : Int), .int .i64 (s.n2 : Int), .int .i64 (s.sz : Int), .int .i64 (s.st : Int), .int .i64 (s.tg : Int),
    .int .i64 (s.lg.m : Int), .int .i64 (s.lg.W : Int), .int .i64 (s.lg.Q : Int), .int .i64 (s.lg.f : Int), .int .i64 (s.lg.nx : Int), .slice p.A s.lg.l.length p.c,
    .int .i64 (s.lf : Int), .int .i64 (s.tr : Int), .bool s.rj, .slice p.Ao s.os.length p.co, .slice p.Ai s.is.length p.ci, .int .i64 (s.sn : Int), .int .i64 (s.ak : Int), .int .i64 (s.lo : Int)⟩
/-- a row of messages in F -/
def RowP (w : World) (F : Nat → Prop) (A : Option Addr) (c : Nat) (l : List (List UInt8)) : Prop := ∃ vs, MidV 39 w A c vs ∧ Pcs w F vs l ∧ ∀ k, blk A = some k → F k
/-- a map of messages in F -/
def MapP (w : World) (F : Nat → Prop) (B : Nat) (l : List (Int × List UInt8)) : Prop := ∃ V, MpR w B V ∧ Kp w F V l ∧ F B
/-- a row of numbers in F -/
def NumP (w : World) (F : Nat → Prop) (A : Option Addr) (c : Nat) (L : List Nat) : Prop := MidV 3 w A c (L.map nvi) ∧ ∀ k, blk A = some k → F k
/-- the block b is an end's -/
def IsAq (w : World) (b : Nat) : Prop := ∃ cur, w.heap[b]? = some (.cells cur 65 (0, 0))
/-- the three sets of an end's blocks -/
structure Sx (w : World) (b : Nat) (F FL FO FU : Nat → Prop) : Prop where
  lb : FL b
  ob : FO b
  ub : FU b
  lo : ∀ k, FL k → FO k → k = b
  lu : ∀ k, FL k → FU k → k = b
  ou : ∀ k, FO k → FU k → k = b
  all : ∀ k, F k ↔ FL k ∨ FO k ∨ FU k
  lt : ∀ k, F k → k < w.heap.size
def AqQ (w : World) (FL FO FU : Nat → Prop) (b : Nat) (s : Aq) : Prop :=
  ∃ p : Aw, w.heap[b]? = some (.cells (aqc s p) 65 (0, 0)) ∧ RowP w FL p.A p.c s.lg.l ∧ (MapP w FO p.B s.od.k ∧ RowP w FO p.Ar p.cr s.od.r) ∧ RowP w FU p.Ao p.co s.os ∧ NumP w FU p.Ai p.ci s.is
/-- The block b holds an end in the state s; it and all that belongs to it lies in F. -/
def AqP (w : World) (F : Nat → Prop) (b : Nat) (s : Aq) : Prop := (∃ FL FO FU, Sx w b F FL FO FU ∧ AqQ w FL FO FU b s) ∧ s.Ok
/-- The end has come into the state s; nothing but it has turned. -/
structure AqTurn (F : Nat → Prop) (b : Nat) (s : Aq) (w w' : World) : Prop where
  st : AqP w' (more F w w') b s
  on : Only F w w'
  lt : ∀ k, F k → k < w.heap.size
section
variable {w w' : World} {F G H FL FO FU : Nat → Prop} {b B c : Nat} {A : Option Addr} {l : List (List UInt8)} {s s' : Aq} {L : List Nat} {m : List (Int × List UInt8)}
theorem RowP.only (h : RowP w F A c l) (hb : IsAq w b) (on : Only G w w') (hd : ∀ k, F k → k ≠ b → ¬ G k) (hH : ∀ k, F k → H k) : RowP w' H A c l := by
  obtain ⟨vs, h1, h2, h3⟩ := h
  obtain ⟨cb, hb⟩ := hb
  refine ⟨vs, h1.only on (fun k hk => hd k (h3 k hk) (fun e => ?_)), Pcs.only on (fun k hk ht => hd k hk (fun e => ?_)) hH h2, fun k hk => hH k (h3 k hk)⟩
  · obtain ⟨cur, t⟩ := h1.type k hk
    rw [e] at t
    exact types_apart (by decide) t hb
  · obtain ⟨cur, t⟩ := ht
    rw [e] at t
    exact types_apart (by decide) t hb
theorem MapP.only (h : MapP w F B m) (hb : IsAq w b) (on : Only G w w') (hd : ∀ k, F k → k ≠ b → ¬ G k) (hH : ∀ k, F k → H k) : MapP w' H B m := by
  obtain ⟨V, h1, h2, h3⟩ := h
  obtain ⟨cb, hb⟩ := hb
  refine ⟨V, h1.only on (hd B h3 (fun e => h1.notCells (e ▸ hb))), Kp.only on (fun k hk ht => hd k hk (fun e => ?_)) hH h2, hH B h3⟩
  obtain ⟨cur, t⟩ := ht
  rw [e] at t
  exact types_apart (by decide) t hb
theorem NumP.only (h : NumP w F A c L) (hb : IsAq w b) (on : Only G w w') (hd : ∀ k, F k → k ≠ b → ¬ G k) (hH : ∀ k, F k → H k) : NumP w' H A c L := by
  obtain ⟨h1, h3⟩ := h
  obtain ⟨cb, hb⟩ := hb
  refine ⟨h1.only on (fun k hk => hd k (h3 k hk) (fun e => ?_)), fun k hk => hH k (h3 k hk)⟩
  obtain ⟨cur, t⟩ := h1.type k hk
  rw [e] at t
  exact types_apart (by decide) t hb
theorem AqQ.isAq (h : AqQ w FL FO FU b s) : IsAq w b := by obtain ⟨p, h, _⟩ := h; exact ⟨_, h⟩
theorem AqP.isAq (h : AqP w F b s) : IsAq w b := by obtain ⟨⟨_, _, _, _, h⟩, _⟩ := h; exact h.isAq
theorem AqP.ok (h : AqP w F b s) : s.Ok := h.2
theorem AqP.lt (h : AqP w F b s) : ∀ k, F k → k < w.heap.size := by obtain ⟨⟨_, _, _, h, _⟩, _⟩ := h; exact h.lt
theorem AqP.mem (h : AqP w F b s) : F b := by obtain ⟨⟨_, _, _, h, _⟩, _⟩ := h; exact (h.all b).2 (.inl h.lb)
/-- another thing turns -/
theorem AqP.only (h : AqP w F b s) (on : Only G w w') (hd : ∀ k, F k → ¬ G k) : AqP w' F b s := by
  obtain ⟨⟨FL, FO, FU, sx, hq⟩, ok⟩ := h
  have ha := hq.isAq
  obtain ⟨p, h1, h2, ⟨h3, h4⟩, h5, h6⟩ := hq
  have gb := hd b ((sx.all b).2 (.inl sx.lb))
  have dl : ∀ k, FL k → k ≠ b → ¬ G k := fun k hk _ => hd k ((sx.all k).2 (.inl hk))
  have do_ : ∀ k, FO k → k ≠ b → ¬ G k := fun k hk _ => hd k ((sx.all k).2 (.inr (.inl hk)))
  have du : ∀ k, FU k → k ≠ b → ¬ G k := fun k hk _ => hd k ((sx.all k).2 (.inr (.inr hk)))
  refine ⟨⟨FL, FO, FU, { sx with lt := fun k hk => Nat.lt_of_lt_of_le (sx.lt k hk) on.size }, p, (on.block b (lt_of_block h1) gb).trans h1, h2.only ha on dl (fun _ h => h), ⟨h3.only ha on do_ (fun _ h => h), h4.only ha on do_ (fun _ h => h)⟩, h5.only ha on du (fun _ h => h), h6.only ha on du (fun _ h => h)⟩, ok⟩
theorem AqP.drewN (h : AqP w F b s) (n : Nat) : AqP (w.drewN n) F b s := h.only (G := fun _ => False) ⟨rfl, rfl, rfl, Nat.le_refl _, fun _ _ _ => rfl⟩ (fun _ _ h => h)
/-- the same in a greater set -/
theorem AqP.into (h : AqP w F b s) (hG : ∀ k, F k → G k) (hlt : ∀ k, G k → k < w.heap.size) : AqP w G b s := by
  obtain ⟨⟨FL, FO, FU, sx, hq⟩, ok⟩ := h
  have ha := hq.isAq
  obtain ⟨p, h1, h2, ⟨h3, h4⟩, h5, h6⟩ := hq
  have o0 : Only (fun _ => False) w w := Only.refl _ _
  refine ⟨⟨FL, FO, fun k => FU k ∨ (G k ∧ ¬ F k), ⟨sx.lb, sx.ob, .inl sx.ub, sx.lo, fun k h h' => h'.elim (sx.lu k h) (fun h' => (h'.2 ((sx.all k).2 (.inl h))).elim), fun k h h' => h'.elim (sx.ou k h) (fun h' => (h'.2 ((sx.all k).2 (.inr (.inl h)))).elim), fun k => ⟨fun hk => ?_, fun hk => ?_⟩, hlt⟩, p, h1, h2, ⟨h3, h4⟩, h5.only ha o0 (fun _ _ _ h => h) (fun _ h => .inl h), h6.only ha o0 (fun _ _ _ h => h) (fun _ h => .inl h)⟩, ok⟩
  · rcases Classical.em (F k) with h | h
    · rcases (sx.all k).1 h with h | h | h
      · exact .inl h
      · exact .inr (.inl h)
      · exact .inr (.inr (.inl h))
    · exact .inr (.inr (.inr ⟨hk, h⟩))
  · rcases hk with h | h | h | h
    · exact hG k ((sx.all k).2 (.inl h))
    · exact hG k ((sx.all k).2 (.inr (.inl h)))
    · exact hG k ((sx.all k).2 (.inr (.inr h)))
    · exact h.1
theorem AqTurn.of_same (h : AqP w' F b s) (on : Only F w w') (hlt : ∀ k, F k → k < w.heap.size) : AqTurn F b s w w' := ⟨h.into (fun _ h => .inl h) (more_lt hlt on.size), on, hlt⟩
theorem AqTurn.refl (h : AqP w F b s) : AqTurn F b s w w := .of_same h (Only.refl _ _) h.lt
theorem AqTurn.from_drewN {n : Nat} (h : AqTurn F b s (w.drewN n) w') : AqTurn F b s w w' := ⟨h.1, ⟨h.2.os, h.2.tape, h.2.output, h.2.size, h.2.block⟩, h.3⟩
theorem AqTurn.drewN (h : AqTurn F b s w w') (n : Nat) : AqTurn F b s w (w'.drewN n) := ⟨h.1.drewN n, ⟨h.2.os, h.2.tape, h.2.output, h.2.size, h.2.block⟩, h.3⟩
/-- two turns, one behind the other -/
theorem AqTurn.trans {w1 w2 : World} {s1 s2 : Aq} (h : AqTurn F b s1 w w1) (h' : AqTurn (more F w w1) b s2 w1 w2) : AqTurn F b s2 w w2 := by
  have hlt := h.lt
  have on : Only F w w2 := h.2.trans h'.2 (fun k hk hm => hm.elim id (fun h => by omega))
  have s1 := h.2.size
  have s2 := h'.2.size
  refine ⟨h'.1.into (fun k hk => ?_) (more_lt hlt on.size), on, hlt⟩
  rcases hk with (hk | ⟨h1, h2⟩) | ⟨h1, h2⟩
  · exact .inl hk
  · exact .inr ⟨h1, Nat.lt_of_lt_of_le h2 s2⟩
  · exact .inr ⟨Nat.le_trans s1 h1, h2⟩
/-- new memory of others comes between -/
theorem AqP.below (h : AqP w F b s) (be : Below w.heap.size w w') : AqP w' F b s := h.only (G := fun _ => False) (Only.of_below _ be) (fun _ _ h => h)
theorem AqTurn.after {w1 w2 : World} (h : AqTurn F b s w1 w2) (be : Below w.heap.size w w1) (hlt : ∀ k, F k → k < w.heap.size) : AqTurn F b s w w2 := by
  have on : Only F w w2 := (Only.of_below (fun _ => False) be).mono (fun _ _ h => h.elim) |>.trans h.2 (fun _ _ h => h)
  have s1 := be.size
  refine ⟨h.1.into (fun k hk => ?_) (more_lt hlt on.size), on, hlt⟩
  rcases hk with hk | ⟨h1, h2⟩
  · exact .inl hk
  · exact .inr ⟨Nat.le_trans s1 h1, h2⟩
/-- the log -/
theorem AqP.log (h : AqP w F b s) : ∃ FL R, AlP w FL b R s.lg ∧ (∀ k, FL k → F k) ∧ ∀ w' l', AlTurn FL b R l' w w' → (s.setLg l').Ok → AqTurn F b (s.setLg l') w w' := by
  obtain ⟨⟨FL, FO, FU, sx, hq⟩, ok⟩ := h
  have ha := hq.isAq
  obtain ⟨p, h1, ⟨vs, h2, h2', h2''⟩, ⟨h3, h4⟩, h5, h6⟩ := hq
  refine ⟨FL, aqRl s p, ⟨⟨p.A, p.c, vs, h1, h2, h2', sx.lb, h2'', fun k hk => sx.lt k ((sx.all k).2 (.inl hk))⟩, ok.lg⟩, fun k hk => (sx.all k).2 (.inl hk), fun w' l' ht ok' => ?_⟩
  obtain ⟨⟨⟨A, c, us, i1, i2, i3, i4, i5, i6⟩, _⟩, on⟩ := ht
  have onF : Only F w w' := on.mono (fun k _ hk => (sx.all k).2 (.inl hk))
  have hs := on.size
  refine ⟨⟨⟨more FL w w', FO, FU, ⟨.inl sx.lb, sx.ob, sx.ub, fun k hk hk' => ?_, fun k hk hk' => ?_, sx.ou, fun k => ?_, more_lt sx.lt hs⟩, ⟨A, c, p.B, p.Ar, p.cr, p.Ao, p.co, p.Ai, p.ci⟩, i1, ⟨us, i2, i3, i5⟩, ⟨h3.only ha on (fun k hk hn hk' => hn (sx.lo k hk' hk)) (fun _ h => h), h4.only ha on (fun k hk hn hk' => hn (sx.lo k hk' hk)) (fun _ h => h)⟩, h5.only ha on (fun k hk hn hk' => hn (sx.lu k hk' hk)) (fun _ h => h), h6.only ha on (fun k hk hn hk' => hn (sx.lu k hk' hk)) (fun _ h => h)⟩, ok'⟩, onF, sx.lt⟩
  · have := sx.lt k ((sx.all k).2 (.inr (.inl hk')))
    exact hk.elim (fun h => sx.lo k h hk') (fun h => by omega)
  · have := sx.lt k ((sx.all k).2 (.inr (.inr hk')))
    exact hk.elim (fun h => sx.lu k h hk') (fun h => by omega)
  · unfold more
    rw [sx.all k]
    constructor
    · rintro ((h | h | h) | h)
      · exact .inl (.inl h)
      · exact .inr (.inl h)
      · exact .inr (.inr h)
      · exact .inl (.inr h)
    · rintro ((h | h) | h | h)
      · exact .inl (.inl h)
      · exact .inr h
      · exact .inl (.inr (.inl h))
      · exact .inl (.inr (.inr h))
/-- the order -/
theorem AqP.ord (h : AqP w F b s) : ∃ FO R, AoP w FO b R s.od ∧ (∀ k, FO k → F k) ∧ ∀ w' o', AoTurn FO b R o' w w' → (s.setOd o').Ok → AqTurn F b (s.setOd o') w w' := by
  obtain ⟨⟨FL, FO, FU, sx, hq⟩, ok⟩ := h
  have ha := hq.isAq
  obtain ⟨p, h1, h2, ⟨⟨V, h3, h3', h3''⟩, ⟨vs, h4, h4', h4''⟩⟩, h5, h6⟩ := hq
  refine ⟨FO, aqRo s p, ⟨⟨p.B, V, p.Ar, p.cr, vs, h1, ⟨h3, h3'⟩, ⟨h4, h4'⟩, sx.ob, h3'', h4'', fun k hk => sx.lt k ((sx.all k).2 (.inr (.inl hk)))⟩, ok.od⟩, fun k hk => (sx.all k).2 (.inr (.inl hk)), fun w' o' ht ok' => ?_⟩
  obtain ⟨⟨⟨B, V', A, c, us, i1, ⟨i2, i3⟩, ⟨i4, i5⟩, i6, i7, i8, i9⟩, _⟩, on⟩ := ht
  have onF : Only F w w' := on.mono (fun k _ hk => (sx.all k).2 (.inr (.inl hk)))
  have hs := on.size
  refine ⟨⟨⟨FL, more FO w w', FU, ⟨sx.lb, .inl sx.ob, sx.ub, fun k hk' hk => ?_, sx.lu, fun k hk hk' => ?_, fun k => ?_, more_lt sx.lt hs⟩, ⟨p.A, p.c, B, A, c, p.Ao, p.co, p.Ai, p.ci⟩, i1, h2.only ha on (fun k hk hn hk' => hn (sx.lo k hk hk')) (fun _ h => h), ⟨⟨V', i2, i3, i7⟩, ⟨us, i4, i5, i8⟩⟩, h5.only ha on (fun k hk hn hk' => hn (sx.ou k hk' hk)) (fun _ h => h), h6.only ha on (fun k hk hn hk' => hn (sx.ou k hk' hk)) (fun _ h => h)⟩, ok'⟩, onF, sx.lt⟩
  · have := sx.lt k ((sx.all k).2 (.inl hk'))
    exact hk.elim (fun h => sx.lo k hk' h) (fun h => by omega)
  · have := sx.lt k ((sx.all k).2 (.inr (.inr hk')))
    exact hk.elim (fun h => sx.ou k h hk') (fun h => by omega)
  · unfold more
    rw [sx.all k]
    constructor
    · rintro ((h | h | h) | h)
      · exact .inl h
      · exact .inr (.inl (.inl h))
      · exact .inr (.inr h)
      · exact .inr (.inl (.inr h))
    · rintro (h | (h | h) | h)
      · exact .inl (.inl h)
      · exact .inl (.inr (.inl h))
      · exact .inr h
      · exact .inl (.inr (.inr h))
/-- one field has turned; the rows are what they are -/
theorem AqP.set (h : AqP w F b s) (j : Nat) (u : Value) (s' : Aq) (hC : ∀ p, (aqc s p).setIfInBounds j u = aqc s' p) (e1 : s'.lg.l = s.lg.l) (e2 : s'.od.k = s.od.k) (e3 : s'.od.r = s.od.r) (e4 : s'.os = s.os) (e5 : s'.is = s.is) (ok' : s'.Ok) :
    w.frozen? ⟨b, j, none⟩ = false ∧ AqTurn F b s' w (w.setCell ⟨b, j, none⟩ u) := by
  obtain ⟨⟨FL, FO, FU, sx, hq⟩, ok⟩ := h
  have ha := hq.isAq
  obtain ⟨p, h1, h2, ⟨h3, h4⟩, h5, h6⟩ := hq
  have on := only_set w ⟨b, j, none⟩ u
  have hn : ∀ k, k ≠ b → ¬ k = (⟨b, j, none⟩ : Addr).block := fun k hk e => hk e
  refine ⟨frozen_of_row w b j _ _ h1, AqTurn.of_same ⟨⟨FL, FO, FU, { sx with lt := fun k hk => Nat.lt_of_lt_of_le (sx.lt k hk) on.size }, p, ?_, ?_, ⟨?_, ?_⟩, ?_, ?_⟩, ok'⟩ (on.mono (fun k _ e => by rw [e]; exact (sx.all b).2 (.inl sx.lb))) sx.lt⟩
  · rw [← hC]
    exact heap_setCell_same w b j _ _ _ h1
  · rw [e1]; exact h2.only ha on (fun k _ hk => hn k hk) (fun _ h => h)
  · rw [e2]; exact h3.only ha on (fun k _ hk => hn k hk) (fun _ h => h)
  · rw [e3]; exact h4.only ha on (fun k _ hk => hn k hk) (fun _ h => h)
  · rw [e4]; exact h5.only ha on (fun k _ hk => hn k hk) (fun _ h => h)
  · rw [e5]; exact h6.only ha on (fun k _ hk => hn k hk) (fun _ h => h)
theorem AqP.cells (h : AqP w F b s) : ∃ p, w.heap[b]? = some (.cells (aqc s p) 65 (0, 0)) := by obtain ⟨⟨_, _, _, _, p, h, _⟩, _⟩ := h; exact ⟨p, h⟩
theorem AqP.c0 (h : AqP w F b s) : w.cell? ⟨b, 0, none⟩ = some (.int .i64 (s.m : Int)) := by obtain ⟨p, h⟩ := h.cells; rw [cell_of_row w b _ _ _ (0, 0) h]; rfl
theorem AqP.c1 (h : AqP w F b s) : w.cell? ⟨b, 1, none⟩ = some (.int .i64 (s.t1 : Int)) := by obtain ⟨p, h⟩ := h.cells; rw [cell_of_row w b _ _ _ (0, 0) h]; rfl
theorem AqP.c2 (h : AqP w F b s) : w.cell? ⟨b, 2, none⟩ = some (.int .i64 (s.n2 : Int)) := by obtain ⟨p, h⟩ := h.cells; rw [cell_of_row w b _ _ _ (0, 0) h]; rfl
theorem AqP.c3 (h : AqP w F b s) : w.cell? ⟨b, 3, none⟩ = some (.int .i64 (s.sz : Int)) := by obtain ⟨p, h⟩ := h.cells; rw [cell_of_row w b _ _ _ (0, 0) h]; rfl
theorem AqP.c4 (h : AqP w F b s) : w.cell? ⟨b, 4, none⟩ = some (.int .i64 (s.st : Int)) := by obtain ⟨p, h⟩ := h.cells; rw [cell_of_row w b _ _ _ (0, 0) h]; rfl
theorem AqP.c5 (h : AqP w F b s) : w.cell? ⟨b, 5, none⟩ = some (.int .i64 (s.tg : Int)) := by obtain ⟨p, h⟩ := h.cells; rw [cell_of_row w b _ _ _ (0, 0) h]; rfl
theorem AqP.c17 (h : AqP w F b s) : w.cell? ⟨b, 17, none⟩ = some (.int .i64 (s.lf : Int)) := by obtain ⟨p, h⟩ := h.cells; rw [cell_of_row w b _ _ _ (0, 0) h]; rfl
theorem AqP.c18 (h : AqP w F b s) : w.cell? ⟨b, 18, none⟩ = some (.int .i64 (s.tr : Int)) := by obtain ⟨p, h⟩ := h.cells; rw [cell_of_row w b _ _ _ (0, 0) h]; rfl
theorem AqP.c19 (h : AqP w F b s) : w.cell? ⟨b, 19, none⟩ = some (.bool s.rj) := by obtain ⟨p, h⟩ := h.cells; rw [cell_of_row w b _ _ _ (0, 0) h]; rfl
theorem AqP.c20 (h : AqP w F b s) : ∃ A c, w.cell? ⟨b, 20, none⟩ = some (.slice A s.os.length c) := by obtain ⟨p, h⟩ := h.cells; exact ⟨p.Ao, p.co, by rw [cell_of_row w b _ _ _ (0, 0) h]; rfl⟩
theorem AqP.c21 (h : AqP w F b s) : ∃ A c, w.cell? ⟨b, 21, none⟩ = some (.slice A s.is.length c) := by obtain ⟨p, h⟩ := h.cells; exact ⟨p.Ai, p.ci, by rw [cell_of_row w b _ _ _ (0, 0) h]; rfl⟩
theorem AqP.c22 (h : AqP w F b s) : w.cell? ⟨b, 22, none⟩ = some (.int .i64 (s.sn : Int)) := by obtain ⟨p, h⟩ := h.cells; rw [cell_of_row w b _ _ _ (0, 0) h]; rfl
theorem AqP.c23 (h : AqP w F b s) : w.cell? ⟨b, 23, none⟩ = some (.int .i64 (s.ak : Int)) := by obtain ⟨p, h⟩ := h.cells; rw [cell_of_row w b _ _ _ (0, 0) h]; rfl
theorem AqP.c24 (h : AqP w F b s) : w.cell? ⟨b, 24, none⟩ = some (.int .i64 (s.lo : Int)) := by obtain ⟨p, h⟩ := h.cells; rw [cell_of_row w b _ _ _ (0, 0) h]; rfl
theorem AqP.z (h : AqP w F b s) (j : Nat) : w.frozen? ⟨b, j, none⟩ = false := by obtain ⟨p, h⟩ := h.cells; exact frozen_of_row w b j _ _ h
theorem AqP.setSt (h : AqP w F b s) {n : Nat} (hn : n ≤ 3) : AqTurn F b (s.setSt n) w (w.setCell ⟨b, 4, none⟩ (.int .i64 (n : Int))) := (h.set 4 _ (s.setSt n) (fun _ => rfl) rfl rfl rfl rfl rfl (h.2.setSt hn)).2
theorem AqP.setTg (h : AqP w F b s) {n : Nat} (hn : n < 65536) : AqTurn F b (s.setTg n) w (w.setCell ⟨b, 5, none⟩ (.int .i64 (n : Int))) := (h.set 5 _ (s.setTg n) (fun _ => rfl) rfl rfl rfl rfl rfl (h.2.setTg hn)).2
theorem AqP.setLf (h : AqP w F b s) {n : Nat} (hn : n ≤ 1048576) : AqTurn F b (s.setLf n) w (w.setCell ⟨b, 17, none⟩ (.int .i64 (n : Int))) := (h.set 17 _ (s.setLf n) (fun _ => rfl) rfl rfl rfl rfl rfl (h.2.setLf hn)).2
theorem AqP.setTr (h : AqP w F b s) (n : Nat) : AqTurn F b (s.setTr n) w (w.setCell ⟨b, 18, none⟩ (.int .i64 (n : Int))) := (h.set 18 _ (s.setTr n) (fun _ => rfl) rfl rfl rfl rfl rfl (h.2.setTr n)).2
theorem AqP.setRj (h : AqP w F b s) (q : Bool) : AqTurn F b (s.setRj q) w (w.setCell ⟨b, 19, none⟩ (.bool q)) := (h.set 19 _ (s.setRj q) (fun _ => rfl) rfl rfl rfl rfl rfl (h.2.setRj q)).2
theorem AqP.setSn (h : AqP w F b s) (n : Nat) : AqTurn F b (s.setSn n) w (w.setCell ⟨b, 22, none⟩ (.int .i64 (n : Int))) := (h.set 22 _ (s.setSn n) (fun _ => rfl) rfl rfl rfl rfl rfl { h.2 with }).2
theorem AqP.setAk (h : AqP w F b s) (n : Nat) : AqTurn F b (s.setAk n) w (w.setCell ⟨b, 23, none⟩ (.int .i64 (n : Int))) := (h.set 23 _ (s.setAk n) (fun _ => rfl) rfl rfl rfl rfl rfl { h.2 with }).2
theorem AqP.setLo (h : AqP w F b s) (n : Nat) : AqTurn F b (s.setLo n) w (w.setCell ⟨b, 24, none⟩ (.int .i64 (n : Int))) := (h.set 24 _ (s.setLo n) (fun _ => rfl) rfl rfl rfl rfl rfl { h.2 with }).2
theorem AqTurn.thenSt (T : AqTurn F b s w w') {n : Nat} (hn : n ≤ 3) : AqTurn F b (s.setSt n) w (w'.setCell ⟨b, 4, none⟩ (.int .i64 (n : Int))) := T.trans (T.1.setSt hn)
theorem AqTurn.thenTg (T : AqTurn F b s w w') {n : Nat} (hn : n < 65536) : AqTurn F b (s.setTg n) w (w'.setCell ⟨b, 5, none⟩ (.int .i64 (n : Int))) := T.trans (T.1.setTg hn)
theorem AqTurn.thenLf (T : AqTurn F b s w w') {n : Nat} (hn : n ≤ 1048576) : AqTurn F b (s.setLf n) w (w'.setCell ⟨b, 17, none⟩ (.int .i64 (n : Int))) := T.trans (T.1.setLf hn)
theorem AqTurn.thenTr (T : AqTurn F b s w w') (n : Nat) : AqTurn F b (s.setTr n) w (w'.setCell ⟨b, 18, none⟩ (.int .i64 (n : Int))) := T.trans (T.1.setTr n)
theorem AqTurn.thenRj (T : AqTurn F b s w w') (q : Bool) : AqTurn F b (s.setRj q) w (w'.setCell ⟨b, 19, none⟩ (.bool q)) := T.trans (T.1.setRj q)
theorem AqTurn.thenSn (T : AqTurn F b s w w') (n : Nat) : AqTurn F b (s.setSn n) w (w'.setCell ⟨b, 22, none⟩ (.int .i64 (n : Int))) := T.trans (T.1.setSn n)
theorem AqTurn.thenAk (T : AqTurn F b s w w') (n : Nat) : AqTurn F b (s.setAk n) w (w'.setCell ⟨b, 23, none⟩ (.int .i64 (n : Int))) := T.trans (T.1.setAk n)
theorem AqTurn.thenLo (T : AqTurn F b s w w') (n : Nat) : AqTurn F b (s.setLo n) w (w'.setCell ⟨b, 24, none⟩ (.int .i64 (n : Int))) := T.trans (T.1.setLo n)
theorem AqTurn.ok (T : AqTurn F b s w w') : s.Ok := T.1.2
end
end Go.Proofs.Ytgkdabllaankcaa
/- The small callees of chapter 12: modulus, within, numbered, code, join; the reference's bit, field, bare. No condition. -/
namespace Go.Proofs.Ytgkdabllaankcaa
open Go.RowKit
set_option linter.unusedVariables false

theorem modulus_calls (m : Int) (w : World) : Calls Try.prog 70 #[.int .i64 m] w fun e w' => e = .returned (.bool (isMod m)) ∧ w = w' := by
  by_cases h : m = 128 ∨ m = 32768
  · rcases h with rfl | rfl
    · go_enter Try.func70, Try.ntmps70
      go_wp2
      go_ret
      exact ⟨rfl, rfl⟩
    · go_enter Try.func70, Try.ntmps70
      go_wp2
      go_ret
      exact ⟨rfl, rfl⟩
  · have h1 : (m == 128) = false := by simpa using fun e => h (.inl e)
    have h2 : (m == 32768) = false := by simpa using fun e => h (.inr e)
    have hm : isMod m = false := decide_eq_false h
    rw [hm]
    clear hm h
    go_enter Try.func70, Try.ntmps70
    go_wp2
    go_ret
    exact ⟨rfl, rfl⟩
theorem within_calls (n m : Int) (w : World) : Calls Try.prog 85 #[.int .i64 n, .int .i64 m] w fun e w' => e = .returned (.bool (inR n m)) ∧ w = w' := by
  by_cases h0 : 0 ≤ n
  · by_cases h1 : n < m
    · rw [show inR n m = true from decide_eq_true ⟨h0, h1⟩]
      go_enter Try.func85, Try.ntmps85
      go_wp2
      go_ret
      exact ⟨rfl, rfl⟩
    · rw [show inR n m = false from decide_eq_false fun h => h1 h.2]
      go_enter Try.func85, Try.ntmps85
      go_wp2
      go_ret
      exact ⟨rfl, rfl⟩
  · rw [show inR n m = false from decide_eq_false fun h => h0 h.1]
    go_enter Try.func85, Try.ntmps85
    go_wp2
    go_ret
    exact ⟨rfl, rfl⟩
theorem numbered_calls (k : Int) (w : World) : Calls Try.prog 72 #[.int .i64 k] w fun e w' => e = .returned (.bool (numb k)) ∧ w = w' := by
  by_cases h : k = 0 ∨ k = 1 ∨ k = 2
  · rcases h with rfl | rfl | rfl
    all_goals
      go_enter Try.func72, Try.ntmps72
      go_wp2
      go_ret
      exact ⟨rfl, rfl⟩
  · have h0 : (k == 0) = false := by simpa using fun e => h (.inl e)
    have h1 : (k == 1) = false := by simpa using fun e => h (.inr (.inl e))
    have h2 : (k == 2) = false := by simpa using fun e => h (.inr (.inr e))
    rw [show numb k = false from decide_eq_false h]
    clear h
    go_enter Try.func72, Try.ntmps72
    go_wp2
    go_ret
    exact ⟨rfl, rfl⟩
theorem code_calls (k : Int) (w : World) : Calls Try.prog 79 #[.int .i64 k] w fun e w' => e = .returned (.int .i64 (codeOf k)) ∧ w = w' := by
  by_cases h : k = 1 ∨ k = 2 ∨ k = 3 ∨ k = 4 ∨ k = 5 ∨ k = 6 ∨ k = 7
  · rcases h with rfl | rfl | rfl | rfl | rfl | rfl | rfl
    all_goals
      go_enter Try.func79, Try.ntmps79
      go_wp2
      go_ret
      exact ⟨rfl, rfl⟩
  · have h1 : ¬ k = 1 := by omega
    have h2 : ¬ k = 2 := by omega
    have h3 : ¬ k = 3 := by omega
    have h4 : ¬ k = 4 := by omega
    have h5 : ¬ k = 5 := by omega
    have h6 : ¬ k = 6 := by omega
    have h7 : ¬ k = 7 := by omega
    rw [show codeOf k = 0 by unfold codeOf; rw [if_neg h1, if_neg h2, if_neg h3, if_neg h4, if_neg h5, if_neg h6, if_neg h7]]
    clear h
    go_enter Try.func79, Try.ntmps79
    go_wp2
    go_ret
    exact ⟨rfl, rfl⟩
theorem bit_calls (p : Bool) (w : World) : Calls Try.prog 37 #[.bool p] w fun e w' => e = .returned (.int .i64 (pb p)) ∧ w = w' := by
  cases p
  all_goals
    go_enter Try.func37, Try.ntmps37
    go_wp2
    go_ret
    exact ⟨rfl, rfl⟩
theorem bvs (x : Int) : bv (by8 x) = .int .u8 (x % 256) := by rw [bv, by8_nat]
theorem join_calls (x y m : Int) (w : World) (hx : 0 ≤ x ∧ x < 65536) (hy : 0 ≤ y ∧ y < 65536) :
    Calls Try.prog 80 #[.int .i64 x, .int .i64 y, .int .i64 m] w fun e w' => e = .returned (.slice (some ⟨w.heap.size, 0, none⟩) (joinB x y m).length (joinB x y m).length) ∧ laid w (joinB x y m) = w' := by
  by_cases hm : m = 128
  · subst hm
    have key : laid w (joinB x y 128) = w.alloc (.cells #[.int .u8 (x % 256), .int .u8 (y % 256)] 5) := by
      rw [laid, show joinB x y 128 = [by8 x, by8 y] from rfl]
      simp only [List.map_cons, List.map_nil, bvs]
    have K := Lib.hid key
    clear key
    go_enter Try.func80, Try.ntmps80
    go_wp2
    go_ret
    exact ⟨rfl, K.out⟩
  · have hq : joinB x y m = [by8 x, by8 (x / 256), by8 y, by8 (y / 256)] := if_neg hm
    have key : laid w (joinB x y m) = w.alloc (.cells #[.int .u8 (x % 256), .int .u8 (x / 256), .int .u8 (y % 256), .int .u8 (y / 256)] 5) := by
      rw [laid, hq]
      simp only [List.map_cons, List.map_nil, bvs]
      rw [show x / 256 % 256 = x / 256 by omega, show y / 256 % 256 = y / 256 by omega]
    rw [hq] at key ⊢
    have K := Lib.hid key
    clear key hq
    go_enter Try.func80, Try.ntmps80
    go_wp2
    go_ret
    exact ⟨rfl, K.out⟩
def fieldB (x m : Int) : List UInt8 := if m = 128 then [by8 x] else [by8 x, by8 (x / 256)]
theorem field_calls (n low m : Int) (w : World) (hx : 0 ≤ n * 2 + low ∧ n * 2 + low < 65536) (hn : 0 ≤ n * 2 ∧ n * 2 < 65536) :
    Calls Try.prog 36 #[.int .i64 n, .int .i64 low, .int .i64 m] w fun e w' => e = .returned (.slice (some ⟨w.heap.size, 0, none⟩) (fieldB (n * 2 + low) m).length (fieldB (n * 2 + low) m).length) ∧ laid w (fieldB (n * 2 + low) m) = w' := by
  have a8 := i64_and255 (n * 2 + low)
  by_cases hm : m = 128
  · subst hm
    have key : laid w (fieldB (n * 2 + low) 128) = w.alloc (.cells #[.int .u8 ((n * 2 + low) % 256)] 5) := by
      rw [laid, show fieldB (n * 2 + low) 128 = [by8 (n * 2 + low)] from rfl]
      simp only [List.map_cons, List.map_nil, bvs]
    have K := Lib.hid key
    clear key
    go_enter Try.func36, Try.ntmps36
    go_wp2
    go_ret
    exact ⟨rfl, K.out⟩
  · have hq : fieldB (n * 2 + low) m = [by8 (n * 2 + low), by8 ((n * 2 + low) / 256)] := if_neg hm
    have key : laid w (fieldB (n * 2 + low) m) = w.alloc (.cells #[.int .u8 ((n * 2 + low) % 256), .int .u8 ((n * 2 + low) / 256)] 5) := by
      rw [laid, hq]
      simp only [List.map_cons, List.map_nil, bvs]
      rw [show (n * 2 + low) / 256 % 256 = (n * 2 + low) / 256 by omega]
    rw [hq] at key ⊢
    have K := Lib.hid key
    clear key hq
    go_enter Try.func36, Try.ntmps36
    go_wp2
    go_ret
    exact ⟨rfl, K.out⟩
theorem bare_calls (k : Int) (hk : 3 ≤ k ∧ k ≤ 7) (w : World) : Calls Try.prog 38 #[.int .i64 k] w fun e w' => e = .returned (.int .i64 (codeOf k)) ∧ w.alloc (.cells #[.int .i64 111, .int .i64 99, .int .i64 67, .int .i64 15, .int .i64 135] 3) = w' := by
  have h : k = 3 ∨ k = 4 ∨ k = 5 ∨ k = 6 ∨ k = 7 := by omega
  clear hk
  rcases h with rfl | rfl | rfl | rfl | rfl
  all_goals
    go_enter Try.func38, Try.ntmps38
    go_wp2
    go_ret
    exact ⟨rfl, rfl⟩
end Go.Proofs.Ytgkdabllaankcaa
/- Right, the program's and the reference's. No condition. -/
namespace Go.Proofs.Ytgkdabllaankcaa
open Go.RowKit
set_option linter.unusedVariables false

/-- the world with one new control field -/
def boxed (w : World) (k ns nr : Int) (p : Bool) : World := w.alloc (.cells #[.int .i64 k, .int .i64 ns, .int .i64 nr, .bool p] 54)
theorem boxed_below (w : World) (k ns nr : Int) (p : Bool) : Below w.heap.size w (boxed w k ns nr p) := (Below.refl _ _).alloc (Nat.le_refl _) _
theorem boxed_size (w : World) (k ns nr : Int) (p : Bool) : (boxed w k ns nr p).heap.size = w.heap.size + 1 := by unfold boxed; simp
section
variable {k ns nr m : Int}
theorem right_no (h : isMod m = false) : right k ns nr m = false := by unfold right; rw [h]; rfl
theorem right_i (h : isMod m = true) : right 0 ns nr m = (inR ns m && inR nr m) := by unfold right; rw [h]; rfl
theorem right_s (h : isMod m = true) (hk : k = 1 ∨ k = 2) : right k ns nr m = (decide (ns = 0) && inR nr m) := by
  unfold right
  rw [h, if_neg (by omega), if_pos hk]
  rfl
theorem right_u (h : isMod m = true) (hk : 3 ≤ k ∧ k ≤ 7) : right k ns nr m = (decide (ns = 0) && decide (nr = 0)) := by
  unfold right
  rw [h, if_neg (by omega), if_neg (by omega), decide_eq_true hk]
  simp
theorem right_x (hk : k < 0 ∨ 7 < k) : right k ns nr m = false := by
  unfold right
  rw [if_neg (by omega), if_neg (by omega), decide_eq_false (by omega)]
  simp
end
theorem eq0_dec (n : Int) : (n == 0) = decide (n = 0) := by
  by_cases h : n = 0 <;> simp [h]

set_option maxHeartbeats 800000 in
theorem right_calls (k ns nr : Int) (p : Bool) (m : Int) (w : World) :
    Calls Try.prog 78 #[.agg #[.int .i64 k, .int .i64 ns, .int .i64 nr, .bool p], .int .i64 m] w fun e w' => e = .returned (.bool (right k ns nr m)) ∧ boxed w k ns nr p = w' := by
  cases hm : isMod m
  · rw [right_no hm]
    go_enter Try.func78, Try.ntmps78
    go_wp2_with fail
    refine (modulus_calls m _).mono ?_
    rintro e w' ⟨rfl, rfl⟩
    go_wp2
    go_ret
    exact ⟨rfl, rfl⟩
  · by_cases h0 : k = 0
    · subst h0
      rw [right_i hm]
      cases h1 : inR ns m
      · go_enter Try.func78, Try.ntmps78
        go_wp2_with fail
        refine (modulus_calls m _).mono ?_
        rintro e w' ⟨rfl, rfl⟩
        go_wp2_with fail
        refine (within_calls ns m _).mono ?_
        rintro e w' ⟨rfl, rfl⟩
        go_wp2
        go_ret
        exact ⟨rfl, rfl⟩
      · go_enter Try.func78, Try.ntmps78
        go_wp2_with fail
        refine (modulus_calls m _).mono ?_
        rintro e w' ⟨rfl, rfl⟩
        go_wp2_with fail
        refine (within_calls ns m _).mono ?_
        rintro e w' ⟨rfl, rfl⟩
        go_wp2_with fail
        refine (within_calls nr m _).mono ?_
        rintro e w' ⟨rfl, rfl⟩
        go_wp2
        go_ret
        exact ⟨rfl, rfl⟩
    · by_cases h12 : k = 1 ∨ k = 2
      · rw [right_s hm h12]
        have hq : (ns == 0) = decide (ns = 0) := eq0_dec ns
        cases hz : decide (ns = 0)
        · rw [hz] at hq
          clear hz
          rcases h12 with rfl | rfl
          all_goals
            go_enter Try.func78, Try.ntmps78
            go_wp2_with fail
            refine (modulus_calls m _).mono ?_
            rintro e w' ⟨rfl, rfl⟩
            go_wp2
            go_ret
            exact ⟨rfl, rfl⟩
        · have hq0 : ns = 0 := of_decide_eq_true hz
          subst hq0
          clear hz hq
          rcases h12 with rfl | rfl
          all_goals
            go_enter Try.func78, Try.ntmps78
            go_wp2_with fail
            refine (modulus_calls m _).mono ?_
            rintro e w' ⟨rfl, rfl⟩
            go_wp2_with fail
            refine (within_calls nr m _).mono ?_
            rintro e w' ⟨rfl, rfl⟩
            go_wp2
            go_ret
            exact ⟨rfl, rfl⟩
      · by_cases h37 : 3 ≤ k ∧ k ≤ 7
        · rw [right_u hm h37]
          have hk : k = 3 ∨ k = 4 ∨ k = 5 ∨ k = 6 ∨ k = 7 := by omega
          clear h37 h0 h12
          have hq : (ns == 0) = decide (ns = 0) := eq0_dec ns
          have hq2 : (nr == 0) = decide (nr = 0) := eq0_dec nr
          cases hz : decide (ns = 0)
          · rw [hz] at hq
            clear hz hq2
            rcases hk with rfl | rfl | rfl | rfl | rfl
            all_goals
              go_enter Try.func78, Try.ntmps78
              go_wp2_with fail
              refine (modulus_calls m _).mono ?_
              rintro e w' ⟨rfl, rfl⟩
              go_wp2
              go_ret
              exact ⟨rfl, rfl⟩
          · have hq0 : ns = 0 := of_decide_eq_true hz
            subst hq0
            clear hz hq
            cases hz : decide (nr = 0)
            all_goals
              rw [hz] at hq2
              clear hz
              rcases hk with rfl | rfl | rfl | rfl | rfl
              all_goals
                go_enter Try.func78, Try.ntmps78
                go_wp2_with fail
                refine (modulus_calls m _).mono ?_
                rintro e w' ⟨rfl, rfl⟩
                go_wp2
                go_ret
                exact ⟨rfl, rfl⟩
        · rw [right_x (by omega)]
          have h1 : ¬ k = 1 := by omega
          have h2 : ¬ k = 2 := by omega
          have h3 : ¬ k = 3 := by omega
          have h4 : ¬ k = 4 := by omega
          have h5 : ¬ k = 5 := by omega
          have h6 : ¬ k = 6 := by omega
          have h7 : ¬ k = 7 := by omega
          clear h12 h37
          go_enter Try.func78, Try.ntmps78
          go_wp2_with fail
          refine (modulus_calls m _).mono ?_
          rintro e w' ⟨rfl, rfl⟩
          go_wp2
          go_ret
          exact ⟨rfl, rfl⟩
end Go.Proofs.Ytgkdabllaankcaa
/- The program's Bytes. No condition. -/
namespace Go.Proofs.Ytgkdabllaankcaa
open Go.RowKit
set_option linter.unusedVariables false

theorem code_bound (k : Int) : 0 ≤ codeOf k ∧ codeOf k ≤ 135 := by
  unfold codeOf
  repeat' split
  all_goals omega
theorem code_num {k : Int} (h : numb k = true) : codeOf k ≤ 9 := by
  have h : k = 0 ∨ k = 1 ∨ k = 2 := of_decide_eq_true h
  rcases h with rfl | rfl | rfl <;> decide
theorem inR_b {n m : Int} (hm : isMod m = true) (h : inR n m = true) : 0 ≤ n ∧ n < 32768 ∧ n < m := by
  have h := of_decide_eq_true h
  have hm : m = 128 ∨ m = 32768 := of_decide_eq_true hm
  omega
theorem right_mod {k ns nr m : Int} (h : right k ns nr m = true) : isMod m = true := by
  cases hm : isMod m
  · rw [right_no hm] at h
    cases h
  · rfl
theorem right_num {k ns nr m : Int} (h : right k ns nr m = true) : 0 ≤ ns ∧ ns < 32768 ∧ ns < m ∧ 0 ≤ nr ∧ nr < 32768 ∧ nr < m ∧ (k ≠ 0 → ns = 0) ∧ (numb k = false → nr = 0) ∧ 0 ≤ k ∧ k ≤ 7 := by
  have hm := right_mod h
  have hmm : m = 128 ∨ m = 32768 := of_decide_eq_true hm
  by_cases hk : k = 0
  · subst hk
    rw [right_i hm, Bool.and_eq_true] at h
    have a := inR_b hm h.1
    have b := inR_b hm h.2
    exact ⟨a.1, a.2.1, a.2.2, b.1, b.2.1, b.2.2, fun e => absurd rfl e, fun e => (by cases e), by decide, by decide⟩
  · by_cases h12 : k = 1 ∨ k = 2
    · rw [right_s hm h12, Bool.and_eq_true] at h
      have a := of_decide_eq_true h.1
      have b := inR_b hm h.2
      exact ⟨by omega, by omega, by omega, b.1, b.2.1, b.2.2, fun _ => a, fun e => absurd (of_decide_eq_false e) (fun g => g (.inr h12)), by omega, by omega⟩
    · by_cases h37 : 3 ≤ k ∧ k ≤ 7
      · rw [right_u hm h37, Bool.and_eq_true] at h
        have a := of_decide_eq_true h.1
        have b := of_decide_eq_true h.2
        exact ⟨by omega, by omega, by omega, by omega, by omega, by omega, fun _ => a, fun _ => b, by omega, by omega⟩
      · rw [right_x (by omega)] at h
        cases h
theorem num_b {k ns nr m : Int} (h : right k ns nr m = true) (hn : numb k = true) : codeOf k + ns * 2 < 65536 := by
  obtain ⟨a1, a2, -, a3, a4, -, h0, -⟩ := right_num h
  have := code_num hn
  by_cases hk : k = 0
  · subst hk
    rw [show codeOf 0 = 0 from rfl]
    omega
  · rw [h0 hk]
    omega
theorem laidD_below (w : World) (l : List UInt8) : Below w.heap.size w (laid w.drew l) := (Below.refl w.heap.size w).drew.alloc (Nat.le_refl _) _
theorem pb_t : pb true = 1 := rfl
theorem pb_f : pb false = 0 := rfl
theorem pb_bound (p : Bool) : 0 ≤ pb p ∧ pb p ≤ 1 := by cases p <;> decide

set_option maxHeartbeats 800000 in
theorem bytes_calls (k ns nr : Int) (p : Bool) (m : Int) (w : World) :
    Calls Try.prog 69 #[.agg #[.int .i64 k, .int .i64 ns, .int .i64 nr, .bool p], .int .i64 m] w (Gives (enc k ns nr p m) w) := by
  have hbb := (boxed_below w k ns nr p).trans ((boxed_below (boxed w k ns nr p) k ns nr p).mono (boxed_below w k ns nr p).size)
  have RC := right_calls k ns nr p m (boxed w k ns nr p)
  cases hr : right k ns nr m
  · have he : enc k ns nr p m = [] := by unfold enc; rw [hr]; rfl
    rw [he]
    unfold boxed at RC hbb
    clear he
    rw [hr] at RC
    go_enter Try.func69, Try.ntmps69
    go_wp2_with fail
    refine RC.mono ?_
    rintro e w' ⟨rfl, rfl⟩
    clear RC
    go_wp2
    go_ret
    exact ⟨none, 0, rfl, Rd.nil _ _, hbb⟩
  · obtain ⟨a1, a2, -, a3, a4, -, -, -⟩ := right_num hr
    have cb := code_bound k
    rw [hr] at RC
    have hc : ∀ v, Below w.heap.size (boxed (boxed w k ns nr p) k ns nr p) v → True := fun _ _ => trivial
    obtain ⟨W, hW⟩ : ∃ W, W = boxed (boxed w k ns nr p) k ns nr p := ⟨_, rfl⟩
    have cells : ∀ v, Below W.heap.size W v → v.cell? ⟨w.heap.size, 0, none⟩ = some (.int .i64 k) ∧ v.cell? ⟨w.heap.size, 1, none⟩ = some (.int .i64 ns) ∧ v.cell? ⟨w.heap.size, 2, none⟩ = some (.int .i64 nr) ∧ v.cell? ⟨w.heap.size, 3, none⟩ = some (.bool p) := by
      intro v hv
      have hw : w.heap.size < W.heap.size := by rw [hW, boxed_size, boxed_size]; omega
      have hh : W.heap[w.heap.size]? = some (.cells #[.int .i64 k, .int .i64 ns, .int .i64 nr, .bool p] 54 (0, 0)) := by
        rw [hW]
        have b1 := boxed_below (boxed w k ns nr p) k ns nr p
        rw [b1.block w.heap.size (by rw [boxed_size]; omega)]
        exact heap_alloc_new w _
      refine ⟨?_, ?_, ?_, ?_⟩ <;> rw [hv.cell (by exact hw), cell_of_row W _ _ _ _ (0, 0) hh] <;> rfl
    rw [← hW] at RC hbb
    have H0 := Lib.hid (cells W (Below.refl _ _))
    have HK := Lib.hid cells
    clear cells hc
    unfold boxed at RC
    cases hn : numb k
    · have he : enc k ns nr p m = [by8 (codeOf k + 16 * pb p)] := by unfold enc; rw [hr, hn]; rfl
      rw [he]
      have key : ∀ z, z = codeOf k + 16 * pb p → laid W [by8 (codeOf k + 16 * pb p)] = W.alloc (.cells #[.int .u8 z] 5) := by
        rintro z rfl
        rw [laid]
        have := pb_bound p
        simp only [List.map_cons, List.map_nil, bvs]
        rw [show (codeOf k + 16 * pb p) % 256 = codeOf k + 16 * pb p by omega]
      have K := Lib.hid key
      have HW := Lib.hid hW
      clear key he hr hW
      obtain ⟨q0, q1, q2, q3⟩ := H0.out
      cases p
      all_goals
        go_enter Try.func69, Try.ntmps69
        go_wp2_with fail
        refine RC.mono ?_
        rintro e w' ⟨rfl, rfl⟩
        clear RC
        go_wp2_with fail
        refine (numbered_calls k _).mono ?_
        rintro e w' ⟨rfl, rfl⟩
        go_wp2_with fail
        refine (code_calls k _).mono ?_
        rintro e w' ⟨rfl, rfl⟩
        go_wp2
        go_ret
        first | rw [← K.out (codeOf k) (by simp [pb])] | rw [← K.out (codeOf k + 16) (by simp [pb])]
        exact ⟨_, 1, rfl, laid_rd _ _, hbb.trans ((laid_below _ _).mono hbb.size)⟩
    · have he : enc k ns nr p m = joinB (codeOf k + ns * 2) (nr * 2 + pb p) m := by unfold enc; rw [hr, hn]; rfl
      rw [he]
      have c9 := num_b hr hn
      have pbb := pb_bound p
      have JC0 := fun v => join_calls (codeOf k + ns * 2) (nr * 2 + pb p) m v (by omega) (by omega)
      have e1 : IntKind.i64.wrap (codeOf k + IntKind.i64.wrap (ns * 2)) = codeOf k + ns * 2 := by rw [IntKind.wrap_i64, IntKind.wrap_i64]; omega
      have e2 : IntKind.i64.wrap (IntKind.i64.wrap (nr * 2) + pb p) = nr * 2 + pb p := by rw [IntKind.wrap_i64, IntKind.wrap_i64]; omega
      have HW := Lib.hid hW
      clear he hr hW pbb
      generalize joinB (codeOf k + ns * 2) (nr * 2 + pb p) m = J at *
      have JC : ∀ v, Calls Try.prog 80 #[.int .i64 (IntKind.i64.wrap (codeOf k + IntKind.i64.wrap (ns * 2))), .int .i64 (IntKind.i64.wrap (IntKind.i64.wrap (nr * 2) + pb p)), .int .i64 m] v fun e w' => e = .returned (.slice (some ⟨v.heap.size, 0, none⟩) J.length J.length) ∧ laid v J = w' := by
        rw [e1, e2]
        exact JC0
      clear e1 e2 JC0
      have lb := laidD_below W J
      have lr := laid_rd W.drew J
      obtain ⟨q0, q1, q2, q3⟩ := H0.out
      cases p
      all_goals
        first | rw [pb_t] at JC | (simp only [pb_f, Int.add_zero] at JC)
        go_enter Try.func69, Try.ntmps69
        go_wp2_with fail
        refine RC.mono ?_
        rintro e w' ⟨rfl, rfl⟩
        clear RC
        go_wp2_with fail
        refine (numbered_calls k _).mono ?_
        rintro e w' ⟨rfl, rfl⟩
        clear q0 q1 q2 q3
        go_wp2_with fail
        go_region_held (fun v => v.cell? ⟨w.heap.size, 0, none⟩ = some (.int .i64 k) ∧ v.cell? ⟨w.heap.size, 1, none⟩ = some (.int .i64 ns) ∧ v.cell? ⟨w.heap.size, 2, none⟩ = some (.int .i64 nr)) (first | exact ⟨H0.out.1, H0.out.2.1, H0.out.2.2.1⟩ | exact ⟨(HK.out _ (by assumption)).1, (HK.out _ (by assumption)).2.1, (HK.out _ (by assumption)).2.2.1⟩)
          (first | (go_at_call 79; with_reducible refine (code_calls k _).mono ?_; rintro e w' ⟨rfl, rfl⟩) | (go_at_call 80; with_reducible refine (JC _).mono ?_; rintro e w' ⟨rfl, rfl⟩))
        go_wp2
        go_ret
        exact ⟨_, _, rfl, lr, hbb.trans (lb.mono hbb.size)⟩
end Go.Proofs.Ytgkdabllaankcaa
/- slices.Concat of three slices of bytes, with slices.Grow. Condition: each slice reads as its octets, at most 5000; the first has one. -/
namespace Go.Proofs.Ytgkdabllaankcaa
open Go.RowKit
set_option linter.unusedVariables false

set_option maxRecDepth 20000 in
theorem grow_calls (n : Nat) (hn : 0 < n) (hb : n ≤ 1048576) (w : World) :
    Calls Try.prog 77 #[.slice none 0 0, .int .i64 n] w fun e w' => ∃ A c, e = .returned (.slice A 0 c) ∧ Own w' w.heap.size A c [] ∧ Below w.heap.size w w' := by
  obtain ⟨i0, hi, hz0, hz1, hz2⟩ := info_parts info8
  have hold : (Builtin.firstCells i0.size 0 (.slice none 0 0)).run Try.prog w.drew = .ok ([] : List Value).toArray w.drew := run_firstCells_none w.drew i0.size 0 0 0
  have hz := fun ty => Lib.run_append_grow_zeros w 39 3 ty 5 i0 _ .i64 .i64 Try.underlying39 Try.underlying3 hi hz0 none 0 0 [] hold n hn (by omega) (by omega) (by omega) (by rw [hz2]; omega)
    (by rw [Nat.zero_add, hz2]; exact growslice_fits hn (by omega))
  rw [Nat.zero_add] at hz
  have hG1 : n ≤ grownCap w n 0 5 := grownCap_ge w _ _ _
  have hG2 := grownCap_le_maxLen w n 0 5 (by unfold maxLen; omega)
  generalize grownCap w n 0 5 = G at hz hG1 hG2
  have hz' : ∀ ty, (Builtin.append_ #[39, 3] ty #[.slice none 0 0, .int .i64 n]).run Try.prog w = .ok (.slice (some ⟨w.heap.size, 0, none⟩) n G) (w.drew.alloc (.cells (Builtin.zeroCells (Value.int .u8 0).cells n ++ Builtin.zeroCells (Value.int .u8 0).cells (G - n)) 5)) := by
    intro ty
    rw [hz ty]
    simp
  clear hz hold
  have hown : Own (w.drew.alloc (.cells (Builtin.zeroCells (Value.int .u8 0).cells n ++ Builtin.zeroCells (Value.int .u8 0).cells (G - n)) 5)) w.heap.size (some ⟨w.heap.size, 0, none⟩) G [] :=
    ⟨rfl, .inr ⟨_, _, _, rfl, Nat.le_refl _, heap_alloc_new w.drew _, Nat.zero_le _, hG2, by simp [Builtin.zeroCells, Value.cells]; omega, by simp⟩⟩
  have hbel : Below w.heap.size w (w.drew.alloc (.cells (Builtin.zeroCells (Value.int .u8 0).cells n ++ Builtin.zeroCells (Value.int .u8 0).cells (G - n)) 5)) := (Below.refl _ _).drew.alloc (Nat.le_refl _) _
  generalize (w.drew.alloc (.cells (Builtin.zeroCells (Value.int .u8 0).cells n ++ Builtin.zeroCells (Value.int .u8 0).cells (G - n)) 5)) = w1 at hz' hown hbel
  unfold maxLen at hG2
  go_enter Try.func77, Try.ntmps77
  go_wp2_with (at_builtin; refine Lib.wpList_append_run _ rfl _ _ _ _ rfl _ _ rfl rfl _ _ (hz' _) ?_)
  go_ret
  exact ⟨_, G, rfl, hown, hbel⟩

set_option maxHeartbeats 1000000 in
theorem concat3_calls (g : Nat) (A : Option Addr) (c : Nat) (l : List UInt8) (B : Option Addr) (d : Nat) (m : List UInt8) (C : Option Addr) (k : Nat) (n : List UInt8) (w : World)
    (h0 : w.cell? ⟨g, 0, none⟩ = some (.slice A l.length c)) (h1 : w.cell? ⟨g, 1, none⟩ = some (.slice B m.length d)) (h2 : w.cell? ⟨g, 2, none⟩ = some (.slice C n.length k)) (hA : Rd w A l) (hB : Rd w B m) (hC : Rd w C n) (hl : l.length ≤ 5000) (hm : m.length ≤ 5000) (hn : n.length ≤ 5000) (hp : 0 < l.length) :
    Calls Try.prog 68 #[.slice (some ⟨g, 0, none⟩) 3 3] w (GivesOwn (l ++ m ++ n) w) := by
  have hg : g < w.heap.size := World.block_lt_of_cell? w _ h0
  go_enter Try.func68, Try.ntmps68
  go_wp2
  refine wp_loop_rounds 4 ?_
  rw [rounds_succ]
  go_wp2
  rw [rounds_succ]
  go_wp2
  rw [rounds_succ]
  go_wp2
  rw [rounds_succ]
  go_wp2_with fail
  have hgr := grow_calls (l.length + m.length + n.length) (by omega) (by omega) w
  rw [Int.natCast_add, Int.natCast_add] at hgr
  with_reducible refine hgr.mono ?_
  rintro e w1 ⟨A1, c1, rfl, own1, bel1⟩
  clear hgr
  obtain ⟨A2, c2, w2, run2, own2, bel2⟩ := run_app w1 w.heap.size A1 c1 [] own1 A c l (hA.below bel1) (by simp; omega) bel1.size
  rw [List.nil_append] at run2 own2
  have b2 := bel1.trans bel2
  obtain ⟨A3, c3, w3, run3, own3, bel3⟩ := run_app w2 w.heap.size A2 c2 l own2 B d m (hB.below b2) (by omega) b2.size
  have b3 := b2.trans bel3
  obtain ⟨A4, c4, w4, run4, own4, bel4⟩ := run_app w3 w.heap.size A3 c3 (l ++ m) own3 C k n (hC.below b3) (by simp; omega) b3.size
  have b4 := b3.trans bel4
  have k0 : w1.cell? ⟨g, 0, none⟩ = some (.slice A l.length c) := (bel1.cell hg).trans h0
  have k1 : w2.cell? ⟨g, 1, none⟩ = some (.slice B m.length d) := (b2.cell hg).trans h1
  have k2 : w3.cell? ⟨g, 2, none⟩ = some (.slice C n.length k) := (b3.cell hg).trans h2
  generalize l ++ m = lm at *
  generalize lm ++ n = lmn at *
  go_wp2
  refine wp_loop_rounds 4 ?_
  rw [rounds_succ]
  go_wp2_with (at_builtin; refine Lib.wpList_append_run _ rfl _ _ _ _ rfl _ _ rfl rfl _ _ (run2 _) ?_)
  rw [rounds_succ]
  go_wp2_with (at_builtin; refine Lib.wpList_append_run _ rfl _ _ _ _ rfl _ _ rfl rfl _ _ (run3 _) ?_)
  rw [rounds_succ]
  go_wp2_with (at_builtin; refine Lib.wpList_append_run _ rfl _ _ _ _ rfl _ _ rfl rfl _ _ (run4 _) ?_)
  rw [rounds_succ]
  go_wp2
  go_ret
  exact ⟨A4, c4, rfl, own4, b4⟩

end Go.Proofs.Ytgkdabllaankcaa
/- put of an end of a session: an output comes. Condition: the message reads as its octets, fewer than a million outputs. -/
namespace Go.Proofs.Ytgkdabllaankcaa
open Go.RowKit
set_option linter.unusedVariables false

section
variable {w : World} {F : Nat → Prop} {b : Nat} {s : Aq}
/-- an output comes: its slice appended -/
theorem aqPut_mem (h : AqP w F b s) (y : List UInt8) (hf : s.os.length ≤ 1000000) :
    ∃ A c, w.cell? ⟨b, 20, none⟩ = some (.slice A s.os.length c) ∧ ∀ V1 A1 c1 base, Below w.heap.size w V1 → w.heap.size ≤ base → Own V1 base A1 c1 y →
      ∃ A3 c3 V3, (∀ ty, (Builtin.append_ #[31, 31] ty #[.slice A s.os.length c, .slice (some ⟨V1.heap.size, 0, none⟩) 1 1]).run Try.prog (V1.alloc (.cells #[.slice A1 y.length c1] 39)) = .ok (.slice A3 (s.os.length + 1) c3) V3) ∧
          V3.cell? ⟨b, 20, none⟩ = some (.slice A s.os.length c) ∧ V3.frozen? ⟨b, 20, none⟩ = false ∧ AqTurn F b { s with os := s.os ++ [y] } w (V3.setCell ⟨b, 20, none⟩ (.slice A3 (s.os.length + 1) c3)) := by
  have hlt := h.lt
  obtain ⟨⟨FL, FO, FU, sx, hq⟩, ok⟩ := h
  have ha := hq.isAq
  obtain ⟨p, h1, h2, ⟨h3, h4⟩, ⟨vs, h5, h5', h5''⟩, h6⟩ := hq
  refine ⟨p.Ao, p.co, by rw [cell_of_row w b _ _ _ (0, 0) h1]; rfl, fun V1 A1 c1 base b1 hbase own => ?_⟩
  have m1 := Mid.of_own own
  have k1 := fun k hk => Nat.le_trans hbase (own.blk_ge k hk).1
  have o1 : Only (fun _ => False) w V1 := Only.of_below _ b1
  have hb1 := (b1.block b (lt_of_block h1)).trans h1
  have ha1 : IsAq V1 b := ⟨_, hb1⟩
  have hv1 := h5.only o1 (fun _ _ h => h)
  have hvl := h5'.len
  obtain ⟨A3, c3, V3, r3, m3, on3, kin3⟩ := hv1.app1 etRow (.slice A1 y.length c1) rfl (by omega)
  rw [hvl] at r3
  have gb : ¬ blk p.Ao = some b := fun e => by
    obtain ⟨cur, t⟩ := h5.type b e
    exact types_apart (by decide) t h1
  have hb3 := (on3.block b (lt_of_block hb1) gb).trans hb1
  have ha3 : IsAq V3 b := ⟨_, hb3⟩
  have hs1 := b1.size
  have hs3 := on3.size
  have onG : Only FU w V3 := (o1.mono (fun _ _ h => h.elim)).trans on3 (fun k _ hk => h5'' k hk)
  have on4 := only_set V3 ⟨b, 20, none⟩ (.slice A3 (s.os.length + 1) c3)
  have hs4 : (V3.setCell ⟨b, 20, none⟩ (.slice A3 (s.os.length + 1) c3)).heap.size = V3.heap.size := by simp [World.setCell]
  have onW : Only FU w (V3.setCell ⟨b, 20, none⟩ (.slice A3 (s.os.length + 1) c3)) := onG.trans on4 (fun k _ hk => by rw [show k = b from hk]; exact sx.ub)
  have q1 : Pc V1 (more FU w V3) (.slice A1 y.length c1) y := ⟨A1, c1, rfl, m1, fun k hk => .inr ⟨k1 k hk, Nat.lt_of_lt_of_le (m1.blk_lt k hk) hs3⟩⟩
  have off : ∀ k, (∃ cur, V1.heap[k]? = some (.cells cur 5 (0, 0))) → ¬ blk p.Ao = some k := fun k hk e => by
    obtain ⟨cur, t⟩ := hk
    obtain ⟨cur', t'⟩ := hv1.type k e
    exact types_apart (by decide) t t'
  have q3 : Pc V3 (more FU w V3) (.slice A1 y.length c1) y := q1.only on3 (fun k _ hk => off k hk) (fun _ h => h)
  have p1 : Pcs V1 FU vs s.os := Pcs.only o1 (fun _ _ _ h => h) (fun _ h => h) h5'
  have p3 : Pcs V3 (more FU w V3) vs s.os := Pcs.only on3 (fun k _ hk => off k hk) (fun _ h => .inl h) p1
  have R3 : RowP V3 (more FU w V3) A3 c3 (s.os ++ [y]) := ⟨_, m3, p3.app q3, fun k hk => (kin3 k hk).elim (fun h => .inl (h5'' k h)) (fun h => .inr ⟨Nat.le_trans hs1 h, m3.blk_lt k hk⟩)⟩
  have N3 : NumP V3 (more FU w V3) p.Ai p.ci s.is := ⟨(h6.1.only o1 (fun _ _ h => h)).only on3 (fun k hk e => by
    obtain ⟨cur, t⟩ := h5.type k e
    obtain ⟨cur', t'⟩ := h6.1.type k hk
    exact types_apart (by decide) t t'), fun k hk => .inl (h6.2 k hk)⟩
  have hn : ∀ k, k ≠ b → ¬ k = (⟨b, 20, none⟩ : Addr).block := fun k hk e => hk e
  have lts : ∀ k, F k → k < V3.heap.size := fun k hk => Nat.lt_of_lt_of_le (hlt k hk) (Nat.le_trans hs1 hs3)
  refine ⟨A3, c3, V3, r3, by rw [cell_of_row V3 b _ _ _ (0, 0) hb3]; rfl, frozen_of_row V3 b 20 _ _ hb3, ⟨⟨FL, FO, more FU w (V3.setCell ⟨b, 20, none⟩ (.slice A3 (s.os.length + 1) c3)), ⟨sx.lb, sx.ob, .inl sx.ub, sx.lo, fun k hk hk' => ?_, fun k hk hk' => ?_, fun k => ?_, more_lt hlt onW.size⟩, ⟨p.A, p.c, p.B, p.Ar, p.cr, A3, c3, p.Ai, p.ci⟩, ?_, h2.only ha onW (fun k hk hn hk' => hn (sx.lu k hk hk')) (fun _ h => h), ⟨h3.only ha onW (fun k hk hn hk' => hn (sx.ou k hk hk')) (fun _ h => h), h4.only ha onW (fun k hk hn hk' => hn (sx.ou k hk hk')) (fun _ h => h)⟩, ?_, ?_⟩, { ok with }⟩, onW.mono (fun k _ hk => (sx.all k).2 (.inr (.inr hk))), hlt⟩
  · have := hlt k ((sx.all k).2 (.inl hk))
    exact hk'.elim (fun h => sx.lu k hk h) (fun h => by omega)
  · have := hlt k ((sx.all k).2 (.inr (.inl hk)))
    exact hk'.elim (fun h => sx.ou k hk h) (fun h => by omega)
  · unfold more
    rw [sx.all k]
    constructor
    · rintro ((h | h | h) | h)
      · exact .inl h
      · exact .inr (.inl h)
      · exact .inr (.inr (.inl h))
      · exact .inr (.inr (.inr h))
    · rintro (h | h | h | h)
      · exact .inl (.inl h)
      · exact .inl (.inr (.inl h))
      · exact .inl (.inr (.inr h))
      · exact .inr h
  · rw [heap_setCell_same V3 b 20 _ _ _ hb3]
    simp [aqc]
  · rw [show more FU w (V3.setCell ⟨b, 20, none⟩ (.slice A3 (s.os.length + 1) c3)) = more FU w V3 by funext k; unfold more; rw [hs4]]
    exact R3.only ha3 on4 (fun k _ hk => hn k hk) (fun _ h => h)
  · rw [show more FU w (V3.setCell ⟨b, 20, none⟩ (.slice A3 (s.os.length + 1) c3)) = more FU w V3 by funext k; unfold more; rw [hs4]]
    exact N3.only ha3 on4 (fun k _ hk => hn k hk) (fun _ h => h)
theorem byte_hi {t : Nat} (ht : t < 65536) : (t : Int) / 256 = ((UInt8.ofNat (t / 256)).toNat : Int) := by
  rw [UInt8.toNat_ofNat']; omega
theorem byte_lo (t : Nat) : (t : Int) % 256 = ((UInt8.ofNat t).toNat : Int) := by
  rw [UInt8.toNat_ofNat']; omega
theorem new_cell (V : World) (C : Array Value) {T : TypeId} (j : Nat) {v : Value} (h : C[j]? = some v) : (V.alloc (.cells C T)).cell? ⟨V.heap.size, j, none⟩ = some v := by
  rw [cell_of_row _ _ _ _ _ (0, 0) (heap_alloc_new V _)]
  exact h
set_option maxRecDepth 20000 in
set_option maxHeartbeats 8000000 in
theorem aqPut_calls (h : AqP w F b s) (hf : s.os.length ≤ 1000000) {t : Nat} (ht : t < 65536) (k ns nr : Int) (q : Bool) (X : Option Addr) (e : Nat) (x : List UInt8) (hr : Rd w X x) (hx : x.length ≤ 5000) :
    Calls Try.prog 56 #[.pointer (some ⟨b, 0, none⟩), .int .i64 (t : Int), .agg #[.int .i64 k, .int .i64 ns, .int .i64 nr, .bool q], .slice X x.length e] w fun r w' => r = .returned (.tuple #[]) ∧ AqTurn F b (s.put t k ns nr q x) w w' := by
  obtain ⟨A, c, c20, PM⟩ := aqPut_mem h (Aq.hd t ++ enc k ns nr q s.m ++ x) hf
  have c0 := h.c0
  have hlt := lt_of_block h.cells.choose_spec
  have be0 := boxed_below w k ns nr q
  have he := enc_len k ns nr q s.m
  obtain ⟨W1, hW1⟩ : ∃ W1, W1 = (boxed w k ns nr q).alloc (.cells #[.int .u8 ((t : Int) / 256), .int .u8 ((t : Int) % 256)] 5) := ⟨_, rfl⟩
  have be1 : Below w.heap.size w W1 := by rw [hW1]; exact be0.alloc (by rw [boxed_size]; omega) _
  have RH : Rd W1 (some ⟨w.heap.size + 1, 0, none⟩) (Aq.hd t) := by
    have := laid_rd (boxed w k ns nr q) (Aq.hd t)
    rw [boxed_size] at this
    rw [hW1]
    simp only [byte_hi ht, byte_lo]
    exact this
  have HS : ∀ v, Below W1.heap.size W1 v → v.cell? ⟨b, 20, none⟩ = some (.slice A s.os.length c) ∧ v.cell? ⟨b, 0, none⟩ = some (.int .i64 (s.m : Int)) ∧ v.cell? ⟨w.heap.size, 0, none⟩ = some (.int .i64 k) ∧ v.cell? ⟨w.heap.size, 1, none⟩ = some (.int .i64 ns) ∧ v.cell? ⟨w.heap.size, 2, none⟩ = some (.int .i64 nr) ∧ v.cell? ⟨w.heap.size, 3, none⟩ = some (.bool q) := by
    intro v hv
    have bw := be1.trans (hv.mono be1.size)
    have hsz : w.heap.size < W1.heap.size := by rw [hW1]; simp [boxed_size]; omega
    have hh : W1.heap[w.heap.size]? = some (.cells #[.int .i64 k, .int .i64 ns, .int .i64 nr, .bool q] 54 (0, 0)) := by
      rw [hW1, Below.heap_alloc _ _ _ (by rw [boxed_size]; omega)]
      exact heap_alloc_new w _
    refine ⟨(bw.cell hlt).trans c20, (bw.cell hlt).trans c0, ?_, ?_, ?_, ?_⟩ <;> rw [hv.cell (by exact hsz), cell_of_row W1 _ _ _ _ (0, 0) hh] <;> rfl
  have HK := Lib.hid HS
  have BC := fun v => bytes_calls k ns nr q s.m v
  have RX := hr.below be1
  have FIN := Lib.hid (show ∀ V1 A1 c1 base, Below W1.heap.size W1 V1 → w.heap.size ≤ base → Own V1 base A1 c1 (Aq.hd t ++ enc k ns nr q s.m ++ x) → _ from fun V1 A1 c1 base hb hbase ho => PM V1 A1 c1 base (be1.trans (hb.mono be1.size)) hbase ho)
  have hs1 := be1.size
  unfold boxed at hW1
  have hW := hW1.symm
  have HB0 : Below W1.heap.size W1 W1.drew := (Below.refl _ _).drew
  have eP : s.put t k ns nr q x = { s with os := s.os ++ [Aq.hd t ++ enc k ns nr q s.m ++ x] } := rfl
  rw [eP]
  clear eP PM h hW1 HS c20 c0 be0 be1 hr
  generalize ({ s with os := s.os ++ [Aq.hd t ++ enc k ns nr q s.m ++ x] } : Aq) = s' at *
  generalize enc k ns nr q s.m = E at *
  generalize s.os.length = n at *
  generalize s.m = M at *
  have CCF := Lib.hid (show ∀ V1 A1 c1, Below W1.heap.size W1 V1 → Rd V1 A1 E → Calls Try.prog 68 #[.slice (some ⟨V1.heap.size, 0, none⟩) 3 3] (V1.alloc (.cells #[.slice (some ⟨w.heap.size + 1, 0, none⟩) 2 2, .slice A1 E.length c1, .slice X x.length e] 39)) (GivesOwn (Aq.hd t ++ E ++ x) (V1.alloc (.cells #[.slice (some ⟨w.heap.size + 1, 0, none⟩) 2 2, .slice A1 E.length c1, .slice X x.length e] 39))) from fun V1 A1 c1 hb rd => concat3_calls V1.heap.size (some ⟨w.heap.size + 1, 0, none⟩) 2 (Aq.hd t) A1 c1 E X e x _ (new_cell V1 _ 0 rfl) (new_cell V1 _ 1 rfl) (new_cell V1 _ 2 rfl) ((RH.below hb).alloc _) (rd.alloc _) ((RX.below hb).alloc _) (by rw [Aq.hd_len]; omega) (by omega) hx (by rw [Aq.hd_len]; omega))
  generalize Aq.hd t ++ E ++ x = Y at *
  go_enter Try.func56, Try.ntmps56
  obtain ⟨i20, i0, ib0, ib1, ib2, ib3⟩ := HK.out _ HB0
  go_wp2_with fail
  go_region_law (first
      | (go_simp; go_at_call 69; refine (BC _).mono ?_; rintro e1 V1 ⟨A1, c1, rfl, rd1, be1⟩; have HB1 : Below W1.heap.size W1 V1 := HB0.trans (be1.mono HB0.size); have HB2 := HB1.alloc HB1.size (.cells #[.slice (some ⟨w.heap.size + 1, 0, none⟩) 2 2, .slice A1 E.length c1, .slice X x.length e] 39); have CC := CCF.out V1 A1 c1 HB1 rd1; have j1 := (HK.out _ HB1).1; have j2 := (HK.out _ HB2).1)
      | (go_simp; go_at_call 68; refine CC.mono ?_; rintro e2 V2 ⟨A2, c2, rfl, own2, be2⟩; have HB3 := HB2.trans (be2.mono HB2.size); obtain ⟨A3, c3, V3, r3, j5, z3, T3⟩ := FIN.out V2 A2 c2 _ HB3 (Nat.le_trans hs1 HB2.size) own2; have FI := Lib.hid T3; have HB4 := HB3.alloc HB3.size (.cells #[.slice A2 Y.length c2] 39); have j3 := (HK.out _ HB3).1; have j4 := (HK.out _ HB4).1; clear T3)
      | ((with_reducible refine step_append_run _ ?_ (.tmp 19) (.tmp 30) _ _ ?_ _ _ ?_ ?_ _ _ (r3 _) ?_); rfl; rfl; (focus (first | (simp [Act.eval]; done) | (simp [Act.eval, Act.put]; done))); (focus (first | (simp [Act.eval]; done) | (simp [Act.eval, Act.put]; done)))))
  all_goals
    go_wp2
    go_end0
    exact ⟨rfl, FI.out⟩
end
end Go.Proofs.Ytgkdabllaankcaa

/- Two ends of a session of which one closes, plainly: how both come to be Down. No condition. -/
import Derived.Test.YtgkdabllaankcaaLinePlain
namespace Go.Proofs.Ytgkdabllaankcaa
set_option linter.unusedVariables false

/-- what all steps keep -/
structure Calm (p : Pr) : Prop where
  ok : ∀ i, (p.a i).Ok
  dry : ∀ i, (p.a i).Dry
  m : ∀ i, (p.a i).m = 128
  tg : ∀ i, (p.a i).tg = 1
  k : ∀ i, (p.a i).od.k = []
  cs : ∀ i, (p.a i).sn ≤ 1000 ∧ (p.a i).ak ≤ 1000 ∧ (p.a i).lo ≤ 1000
  hd : ∀ i, (p.heard i).length ≤ 1000
  dn : p.downs ≤ 1000
section
variable {p p' : Pr} {i : Bool} {x : List UInt8} {l : List (List UInt8)} {s s' : Aq}
theorem both {P : Bool → Prop} (i : Bool) (h1 : P i) (h2 : P (!i)) : ∀ b, P b := fun b => by cases i <;> cases b <;> assumption
theorem Calm.next (C : Calm p) (K : Carried p p' i l s') (ok : s'.Ok) (hm : s'.m = 128) (ht : s'.tg = 1) (hk : s'.od.k = []) (hc : s'.sn ≤ 1000 ∧ s'.ak ≤ 1000 ∧ s'.lo ≤ 1000) (hh : (p.heard (!i)).length + s'.od.r.length ≤ 1000) (hdn : p.downs + _root_.Go.Proofs.Ytgkdabllaankcaa.dn s'.is ≤ 1000) : Calm p' := by
  obtain ⟨c1, c2, c3, c4, c5, c6, c7, c8⟩ := K
  refine ⟨both i (by rw [c2]; exact C.ok i) (by rw [c1]; exact ok.dry), both i (by rw [c2]; exact C.dry i) (by rw [c1]; exact Aq.dry_dry _), both i (by rw [c2]; exact C.m i) (by rw [c1]; exact hm), both i (by rw [c2]; exact C.tg i) (by rw [c1]; exact ht), both i (by rw [c2]; exact C.k i) (by rw [c1]; exact hk), both i (by rw [c2]; exact C.cs i) (by rw [c1]; exact hc), both i (by rw [c5]; exact C.hd i) (by rw [c6, List.length_append]; exact hh), by rw [c8]; exact hdn⟩
/-- what a step must tell -/
def Steps (J : Nat → Pr → Prop) (u : Nat) (p : Pr) : Prop := ∀ i x l, p.way i = x :: l → ∃ s', (p.a (!i)).input x = s' ∧ x.length ≤ 1000 ∧ s'.os.length ≤ 100 ∧ s'.od.r.length ≤ 1 ∧ s'.is.length ≤ 1 ∧ ∀ p', Carried p p' i l s' → ∃ u', u' < u ∧ J u' p'
theorem Flow.of {J : Nat → Pr → Prop} (h1 : ∀ {u p}, J u p → Calm p ∧ ∀ i, (p.way i).length ≤ 1000) (h2 : ∀ {u p}, J u p → Steps J u p) : Flow J where
  room := by
    intro u p h i
    obtain ⟨C, hl⟩ := h1 h
    refine roomy (C.dry i) fun x l hw => ?_
    obtain ⟨s', e, k1, k2, k3, k4, -⟩ := h2 h i x l hw
    rw [e]
    have q1 := hl i
    have q2 := hl (!i)
    have q3 := C.hd i
    have q4 := C.hd (!i)
    have q5 := C.dn
    obtain ⟨d1, d2, d3⟩ := C.dry (!i)
    obtain ⟨n1, n2, n3⟩ := C.cs (!i)
    refine ⟨⟨by rw [d1]; decide, by rw [d2]; decide, ?_, by omega, by omega, by omega⟩, by omega, by omega, by omega, by omega, by omega, by omega, by omega⟩
    unfold Od.all
    rw [C.k, d3]
    decide
  step := by
    intro u p h i hne
    cases hw : p.way i with
    | nil => exact absurd hw hne
    | cons x l =>
      obtain ⟨s', e, -, -, -, -, k⟩ := h2 h i x l hw
      have K := carried ((h1 h).1.dry i) hw
      rw [e] at K
      exact k _ K
/-- an I, a CRR or a CREJ -/
def Num (x : List UInt8) : Prop := ∃ (k ns nr : Int) (p : Bool) (y : List UInt8), (k = 0 ∨ k = 1) ∧ right k ns nr 128 = true ∧ x = Aq.hd 1 ++ enc k ns nr p 128 ++ y ∧ y.length ≤ 50
theorem Num.len (h : Num x) : x.length ≤ 1000 := by
  obtain ⟨k, ns, nr, p, y, -, -, rfl, hy⟩ := h
  have := enc_len k ns nr p 128
  rw [List.length_append, List.length_append]
  show 2 + _ + _ ≤ _
  omega
/-- an end that closes ignores it -/
theorem Num.closing (h : Num x) (hm : s.m = 128) (hst : s.st = 3) : s.input x = s := by
  obtain ⟨k, ns, nr, p, y, hk, hr, rfl, -⟩ := h
  have hin := Aq.input_enc (s := s) (t := 1) (by decide) (k := k) (ns := ns) (nr := nr) (p := p) (x := y) (by rw [hm]; exact hr)
  rw [hm] at hin
  have hin : s.input (Aq.hd 1 ++ enc k ns nr p 128 ++ y) = _ := hin
  rw [hin]
  unfold Aq.proc
  rw [if_neg (by omega), if_neg (by omega), if_neg (by omega), if_neg (by omega), if_neg (by omega)]
  unfold Aq.numbd
  rw [if_neg (by rw [hst]; decide), if_neg (fun c => by have := c.2; omega)]
theorem num_R {e : Nat} (he : e < 128) (p : Bool) : Num (itR 1 128 e p) := ⟨1, 0, (e : Int), p, [], .inr rfl, Aq.right_RR (m := 128) (.inl rfl) (.inl rfl) he, rfl, by decide⟩
theorem num_I {L : List (List UInt8)} (hL : ∀ x ∈ L, x.length ≤ 50) (p : Bool) (j : Nat) : Num (itI 128 0 L p j) := ⟨0, ((j % 128 : Nat) : Int), ((0 : Nat) : Int), p, L.getD j [], .inl rfl, Aq.right_I (m := 128) (.inl rfl) (Nat.mod_lt _ (by decide)) (by decide), rfl, getD_small hL j⟩
/-- CDISC and CUA with Poll -/
def cdisc : List UInt8 := Aq.hd 1 ++ enc 5 0 0 true 128 ++ []
def cua : List UInt8 := Aq.hd 1 ++ enc 4 0 0 true 128 ++ []
theorem cdisc_len : cdisc.length ≤ 1000 ∧ cua.length ≤ 1000 := by
  have h1 := enc_len 5 0 0 true 128
  have h2 := enc_len 4 0 0 true 128
  unfold cdisc cua
  rw [List.length_append, List.length_append, List.length_append, List.length_append]
  exact ⟨by show 2 + _ + 0 ≤ _; omega, by show 2 + _ + 0 ≤ _; omega⟩
theorem cdisc_at (hm : s.m = 128) (ht : s.tg = 1) (hst : s.st = 2 ∨ s.st = 3) : s.input cdisc = (s.send 4 true).fin := by
  have hin := Aq.input_enc (s := s) (t := 1) (by decide) (k := 5) (ns := 0) (nr := 0) (p := true) (x := []) (by rw [hm]; exact Aq.right_bare (.inl rfl) (by decide))
  rw [hm] at hin
  have hin : s.input cdisc = _ := hin
  rw [hin]
  show s.disc 1 true = _
  unfold Aq.disc
  rw [if_pos ⟨ht.symm, hst⟩]
theorem cua_at (hm : s.m = 128) (ht : s.tg = 1) (hst : s.st = 3) : s.input cua = s.fin := by
  have hin := Aq.input_enc (s := s) (t := 1) (by decide) (k := 4) (ns := 0) (nr := 0) (p := true) (x := []) (by rw [hm]; exact Aq.right_bare (.inl rfl) (by decide))
  rw [hm] at hin
  have hin : s.input cua = _ := hin
  rw [hin]
  show s.ua 1 = _
  unfold Aq.ua
  rw [if_pos ⟨ht.symm, hst⟩]
end
section
variable {L : List (List UInt8)} {j k : Nat} {p p' : Pr}
/-- what the first end has counted -/
def Cnt (L : List (List UInt8)) (p : Pr) : Prop := (p.a false).sn = L.length ∧ (p.a false).ak + (p.a false).lo = L.length ∧ (p.a false).ak ≤ (p.heard true).length
/-- the first end closes; the second one has not heard of it; it has; both are Down -/
structure CloA (L : List (List UInt8)) (j : Nat) (p : Pr) : Prop where
  c : Calm p
  sa : (p.a false).st = 3
  la : (p.a false).lg.l = []
  b : Snd [] 0 0 (p.a true)
  eb : (p.a true).od.e = j
  szb : (p.a true).sz = 50
  cnt : Cnt L p
  w0 : ∃ T, j ≤ T ∧ T ≤ L.length ∧ p.way false = itsI 128 0 L j T ++ [cdisc]
  w1 : ∀ x ∈ p.way true, Num x
  dn : p.downs = 0
  hd : (p.heard true).length = j
structure CloA2 (L : List (List UInt8)) (p : Pr) : Prop where
  c : Calm p
  sa : (p.a false).st = 3
  la : (p.a false).lg.l = []
  sb : (p.a true).st = 0
  cnt : Cnt L p
  w0 : p.way false = []
  w1 : ∃ R, p.way true = R ++ [cua] ∧ ∀ x ∈ R, Num x
  dn : p.downs ≤ 1
structure Clo3 (L : List (List UInt8)) (p : Pr) : Prop where
  c : Calm p
  sa : (p.a false).st = 0
  sb : (p.a true).st = 0
  cnt : Cnt L p
  w : ∀ i, p.way i = []
/-- the second end closes -/
structure CloB (L : List (List UInt8)) (k j : Nat) (p : Pr) : Prop where
  c : Calm p
  a : Snd L k (min L.length (k + 4)) (p.a false)
  wa : (p.a false).lg.W = 4
  ea : (p.a false).od.e = 0
  sb : (p.a true).st = 3
  lb : (p.a true).lg.l = []
  kj : k ≤ j
  jt : j ≤ min L.length (k + 4)
  w0 : ∀ x ∈ p.way false, Num x
  w1 : p.way true = rrs k j ++ [cdisc]
  dn : p.downs = 0
  hd : (p.heard true).length = j
structure CloB2 (L : List (List UInt8)) (p : Pr) : Prop where
  c : Calm p
  sa : (p.a false).st = 0
  sb : (p.a true).st = 3
  lb : (p.a true).lg.l = []
  cnt : Cnt L p
  w1 : p.way true = []
  w0 : ∃ R, p.way false = R ++ [cua] ∧ ∀ x ∈ R, Num x
  dn : p.downs ≤ 1
def JA (L : List (List UInt8)) (u : Nat) (p : Pr) : Prop := ((∃ j, CloA L j p) ∨ CloA2 L p ∨ Clo3 L p) ∧ u = 2 * (p.way false).length + (p.way true).length ∧ u ≤ 1000
def JB (L : List (List UInt8)) (u : Nat) (p : Pr) : Prop := ((∃ k j, CloB L k j p) ∨ CloB2 L p ∨ Clo3 L p) ∧ u = (p.way false).length + 2 * (p.way true).length ∧ u ≤ 1000
/-- what has no effect on an end that closes -/
theorem skip {i : Bool} {x : List UInt8} {l : List (List UInt8)} (C : Calm p) (hw : p.way i = x :: l) (hs : (p.a (!i)).st = 3) (hx : Num x) :
    (p.a (!i)).input x = p.a (!i) ∧ x.length ≤ 1000 ∧ (p.a (!i)).os.length ≤ 100 ∧ (p.a (!i)).od.r.length ≤ 1 ∧ (p.a (!i)).is.length ≤ 1 ∧
      ∀ p', Carried p p' i l (p.a (!i)) → Calm p' ∧ (∀ b, p'.a b = p.a b) ∧ p'.way i = l ∧ p'.way (!i) = p.way (!i) ∧ (∀ b, p'.heard b = p.heard b) ∧ p'.downs = p.downs := by
  obtain ⟨d1, d2, d3⟩ := C.dry (!i)
  refine ⟨hx.closing (C.m _) hs, hx.len, by rw [d1]; decide, by rw [d3]; decide, by rw [d2]; decide, ?_⟩
  intro p' K
  have N := C.next K (C.ok _) (C.m _) (C.tg _) (C.k _) (C.cs _) (by rw [d3]; exact C.hd _) (by rw [d2, dn_nil]; exact C.dn)
  obtain ⟨c1, c2, c3, c4, c5, c6, c7, c8⟩ := K
  rw [d1, List.append_nil] at c4
  rw [d3, List.append_nil] at c6
  rw [d2, dn_nil] at c8
  rw [(C.dry (!i)).same] at c1
  exact ⟨N, both i c2 c1, c3, c4, both i c5 c6, c8⟩
theorem JA.steps (hL : ∀ x ∈ L, x.length ≤ 50) (hn : L.length ≤ 100) {u : Nat} (h : JA L u p) : Steps (JA L) u p := by
  obtain ⟨h, hu, hb⟩ := h
  intro i x l hw
  rcases h with ⟨j, h⟩ | h | h
  · cases i
    · obtain ⟨T, t1, t2, t3⟩ := h.w0
      rw [hw] at t3
      by_cases c : j < T
      · rw [itsI_first _ _ _ c, List.cons_append] at t3
        injection t3 with e1 e2
        subst e1
        have hE := line_next h.b (h.c.m true) (h.c.k true) h.szb (L := L) h.eb (by omega) (getD_small hL j)
        have hm : (p.a true).od.m = 128 := by rw [h.b.ok.odm, h.c.m]
        have hok := h.b.ok.input (b := itI 128 0 L false j) (by have := itI_len 128 0 L false j; have := getD_small hL j; omega)
        obtain ⟨d1, d2, d3⟩ := h.c.dry true
        refine ⟨_, rfl, (num_I hL false j).len, ?_, ?_, ?_, ?_⟩
        · show ((p.a true).input _).os.length ≤ _; rw [hE]; show ((p.a true).os ++ [_]).length ≤ _; rw [d1]; show 1 ≤ 100; decide
        · show ((p.a true).input _).od.r.length ≤ _; rw [hE]; show ((p.a true).od.r ++ [_]).length ≤ _; rw [d3]; exact Nat.le_refl _
        · show ((p.a true).input _).is.length ≤ _; rw [hE]; show (p.a true).is.length ≤ _; rw [d2]; exact Nat.zero_le _
        · intro p' K
          have K : Carried p p' false l ((p.a true).input (itI 128 0 L false j)) := K
          rw [hE] at K hok
          have hh : (p.heard true).length + ((p.a true).od.r ++ [L.getD j []]).length ≤ 1000 := by rw [h.hd, d3]; show j + 1 ≤ 1000; omega
          have N := h.c.next K hok (h.c.m true) (h.c.tg true) rfl (h.c.cs true) hh (by show p.downs + dn (p.a true).is ≤ _; rw [d2, dn_nil]; exact h.c.dn)
          obtain ⟨c1, c2, c3, c4, c5, c6, c7, c8⟩ := K
          have c1 : p'.a true = _ := c1
          have c2 : p'.a false = p.a false := c2
          have c3 : p'.way false = l := c3
          have c4 : p'.way true = p.way true ++ ((p.a true).os ++ [Aq.hd (p.a true).tg ++ enc 1 0 ((((p.a true).od.e + 1) % (p.a true).od.m : Nat) : Int) false ((p.a true).m : Int) ++ []]) := c4
          rw [d1, List.nil_append, h.b.tg, hm, h.c.m, h.eb, Nat.mod_eq_of_lt (by omega)] at c4
          have c4 : p'.way true = p.way true ++ [itR 1 128 (j + 1) false] := c4
          have c6 : p'.heard true = p.heard true ++ ((p.a true).od.r ++ [L.getD j []]) := c6
          rw [d3, List.nil_append] at c6
          have c8 : p'.downs = p.downs + dn (p.a true).is := c8
          rw [d2, dn_nil, Nat.add_zero] at c8
          have hl6 : (p'.heard true).length = j + 1 := by rw [c6, List.length_append, h.hd]; rfl
          obtain ⟨n1, n2, n3⟩ := h.cnt
          refine ⟨2 * (p'.way false).length + (p'.way true).length, ?_, .inl ⟨j + 1, N, by rw [c2]; exact h.sa, by rw [c2]; exact h.la, ?_, ?_, by rw [c1]; exact h.szb, ?_, ⟨T, c, t2, by rw [c3]; exact e2⟩, ?_, c8.trans h.dn, hl6⟩, rfl, ?_⟩
          · rw [c3, c4, List.length_append]; rw [hw] at hu; have hu : u = 2 * (l.length + 1) + _ := hu; show _ + (_ + 1) < _; omega
          · rw [c1]
            exact ⟨hok.dry, h.b.st, h.b.tg, h.b.f, h.b.n, Nat.le_refl _, h.b.l, Nat.le_refl _, h.b.sn, h.b.ak, h.b.lo⟩
          · rw [c1]
            show ((p.a true).od.e + 1) % (p.a true).od.m = j + 1
            rw [hm, h.eb, Nat.mod_eq_of_lt (by omega)]
          · exact ⟨by rw [c2]; exact n1, by rw [c2]; exact n2, by rw [c2, hl6]; rw [h.hd] at n3; omega⟩
          · intro y hy
            rw [c4] at hy
            rcases List.mem_append.1 hy with hy | hy
            · exact h.w1 y hy
            · rw [List.mem_singleton.1 hy]; exact num_R (by omega) false
          · rw [c3, c4, List.length_append]; rw [hw] at hu; have hu : u = 2 * (l.length + 1) + _ := hu; show _ + (_ + 1) ≤ _; omega
      · obtain rfl : T = j := by omega
        rw [itsI_none, List.nil_append] at t3
        injection t3 with e1 e2
        subst e1 e2
        have hE := cdisc_at (h.c.m true) (h.c.tg true) (.inl h.b.st)
        obtain ⟨d1, d2, d3⟩ := h.c.dry true
        refine ⟨_, hE, cdisc_len.1, ?_, ?_, ?_, ?_⟩
        · show ((p.a true).os ++ [_]).length ≤ _; rw [d1]; show 1 ≤ 100; decide
        · show (p.a true).od.r.length ≤ _; rw [d3]; decide
        · show ((p.a true).is ++ [2]).length ≤ _; rw [d2]; decide
        · intro p' K
          obtain ⟨m1, m2, m3⟩ := h.c.cs true
          have N := h.c.next K (((h.c.ok true).send 4 true).fin) (h.c.m true) (h.c.tg true) rfl ⟨m1, m2, by show (p.a true).lo + (p.a true).lg.l.length ≤ _; rw [h.b.lo, h.b.l]; decide⟩ (by show _ + (p.a true).od.r.length ≤ _; rw [d3]; exact h.c.hd true) (by show p.downs + dn ((p.a true).is ++ [2]) ≤ _; rw [d2, h.dn]; decide)
          obtain ⟨c1, c2, c3, c4, c5, c6, c7, c8⟩ := K
          have c1 : p'.a true = _ := c1
          have c2 : p'.a false = p.a false := c2
          have c3 : p'.way false = [] := c3
          have c4 : p'.way true = p.way true ++ ((p.a true).os ++ [Aq.hd (p.a true).tg ++ enc 4 0 0 true ((p.a true).m : Int) ++ []]) := c4
          rw [d1, List.nil_append, h.b.tg, h.c.m] at c4
          have c4 : p'.way true = p.way true ++ [cua] := c4
          have c6 : p'.heard true = p.heard true ++ (p.a true).od.r := c6
          rw [d3, List.append_nil] at c6
          have c8 : p'.downs = p.downs + dn ((p.a true).is ++ [2]) := c8
          rw [d2, h.dn] at c8
          obtain ⟨n1, n2, n3⟩ := h.cnt
          refine ⟨2 * (p'.way false).length + (p'.way true).length, ?_, .inr (.inl ⟨N, by rw [c2]; exact h.sa, by rw [c2]; exact h.la, by rw [c1]; rfl, ⟨by rw [c2]; exact n1, by rw [c2]; exact n2, by rw [c2, c6]; exact n3⟩, c3, ⟨_, c4, h.w1⟩, by rw [c8]; decide⟩), rfl, ?_⟩
          all_goals rw [c3, c4, List.length_append]; rw [hw] at hu; have hu : u = 2 * (0 + 1) + _ := hu; have z0 : ([] : List (List UInt8)).length = 0 := rfl; have z1 : [cua].length = 1 := rfl; omega
    · obtain ⟨k1, k2, k3, k4, k5, k6⟩ := skip h.c hw h.sa (h.w1 x (by rw [hw]; exact List.mem_cons_self))
      refine ⟨_, k1, k2, k3, k4, k5, fun p' K => ?_⟩
      obtain ⟨N, ha, c3, c4, ch, cd⟩ := k6 p' K
      have c3 : p'.way true = l := c3
      have c4 : p'.way false = p.way false := c4
      refine ⟨2 * (p'.way false).length + (p'.way true).length, ?_, .inl ⟨j, N, by rw [ha]; exact h.sa, by rw [ha]; exact h.la, by rw [ha]; exact h.b, by rw [ha]; exact h.eb, by rw [ha]; exact h.szb, ?_, by rw [c4]; exact h.w0, ?_, cd.trans h.dn, by rw [ch]; exact h.hd⟩, rfl, ?_⟩
      · rw [c3, c4]; rw [hw] at hu; have hu : u = _ + (l.length + 1) := hu; omega
      · unfold Cnt; rw [ha, ch]; exact h.cnt
      · rw [c3]; exact fun y hy => h.w1 y (by rw [hw]; exact List.mem_cons_of_mem _ hy)
      · rw [c3, c4]; rw [hw] at hu; have hu : u = _ + (l.length + 1) := hu; omega
  · cases i
    · have := h.w0; rw [hw] at this; cases this
    · obtain ⟨R, r1, r2⟩ := h.w1
      rw [hw] at r1
      cases R with
      | nil =>
        rw [List.nil_append] at r1
        injection r1 with e1 e2
        subst e1 e2
        have hE := cua_at (h.c.m false) (h.c.tg false) h.sa
        obtain ⟨d1, d2, d3⟩ := h.c.dry false
        refine ⟨_, hE, cdisc_len.2, ?_, ?_, ?_, ?_⟩
        · show (p.a false).os.length ≤ _; rw [d1]; decide
        · show (p.a false).od.r.length ≤ _; rw [d3]; decide
        · show ((p.a false).is ++ [2]).length ≤ _; rw [d2]; decide
        · intro p' K
          obtain ⟨m1, m2, m3⟩ := h.c.cs false
          have hlo : (p.a false).lo + (p.a false).lg.l.length = (p.a false).lo := by rw [h.la]; rfl
          have hdn := h.dn
          have N := h.c.next K ((h.c.ok false).fin) (h.c.m false) (h.c.tg false) rfl ⟨m1, m2, by show (p.a false).lo + (p.a false).lg.l.length ≤ _; rw [hlo]; exact m3⟩ (by show _ + (p.a false).od.r.length ≤ _; rw [d3]; exact h.c.hd false) (by show p.downs + dn ((p.a false).is ++ [2]) ≤ _; rw [d2]; show p.downs + 1 ≤ _; omega)
          obtain ⟨c1, c2, c3, c4, c5, c6, c7, c8⟩ := K
          have c1 : p'.a false = _ := c1
          have c2 : p'.a true = p.a true := c2
          have c3 : p'.way true = [] := c3
          have c4 : p'.way false = p.way false ++ (p.a false).os := c4
          rw [d1, List.append_nil, h.w0] at c4
          have c5 : p'.heard true = p.heard true := c5
          obtain ⟨n1, n2, n3⟩ := h.cnt
          refine ⟨2 * (p'.way false).length + (p'.way true).length, ?_, .inr (.inr ⟨N, by rw [c1]; rfl, by rw [c2]; exact h.sb, ⟨by rw [c1]; exact n1, ?_, by rw [c1, c5]; exact n3⟩, fun b => by cases b <;> assumption⟩), rfl, ?_⟩
          · rw [c3, c4]; rw [hw] at hu; have hu : u = _ + (0 + 1) := hu; show 0 < _; omega
          · rw [c1]; show (p.a false).ak + ((p.a false).lo + (p.a false).lg.l.length) = _; rw [hlo]; exact n2
          · rw [c3, c4]; decide
      | cons y R =>
        rw [List.cons_append] at r1
        injection r1 with e1 e2
        subst e1
        obtain ⟨k1, k2, k3, k4, k5, k6⟩ := skip h.c hw h.sa (r2 x List.mem_cons_self)
        refine ⟨_, k1, k2, k3, k4, k5, fun p' K => ?_⟩
        obtain ⟨N, ha, c3, c4, ch, cd⟩ := k6 p' K
        have c3 : p'.way true = l := c3
        have c4 : p'.way false = p.way false := c4
        refine ⟨2 * (p'.way false).length + (p'.way true).length, ?_, .inr (.inl ⟨N, by rw [ha]; exact h.sa, by rw [ha]; exact h.la, by rw [ha]; exact h.sb, by unfold Cnt; rw [ha, ch]; exact h.cnt, c4.trans h.w0, ⟨R, c3.trans e2, fun z hz => r2 z (List.mem_cons_of_mem _ hz)⟩, by rw [cd]; exact h.dn⟩), rfl, ?_⟩
        all_goals rw [c3, c4]; rw [hw] at hu; have hu : u = _ + (l.length + 1) := hu; omega
  · have := h.w i; rw [hw] at this; cases this
theorem JB.steps (hL : ∀ x ∈ L, x.length ≤ 50) (hn : L.length ≤ 100) {u : Nat} (h : JB L u p) : Steps (JB L) u p := by
  obtain ⟨h, hu, hb⟩ := h
  intro i x l hw
  rcases h with ⟨k, j, h⟩ | h | h
  · cases i
    · obtain ⟨k1, k2, k3, k4, k5, k6⟩ := skip h.c hw h.sb (h.w0 x (by rw [hw]; exact List.mem_cons_self))
      refine ⟨_, k1, k2, k3, k4, k5, fun p' K => ?_⟩
      obtain ⟨N, ha, c3, c4, ch, cd⟩ := k6 p' K
      have c3 : p'.way false = l := c3
      have c4 : p'.way true = p.way true := c4
      refine ⟨(p'.way false).length + 2 * (p'.way true).length, ?_, .inl ⟨k, j, N, by rw [ha]; exact h.a, by rw [ha]; exact h.wa, by rw [ha]; exact h.ea, by rw [ha]; exact h.sb, by rw [ha]; exact h.lb, h.kj, h.jt, ?_, c4.trans h.w1, cd.trans h.dn, by rw [ch]; exact h.hd⟩, rfl, ?_⟩
      · rw [c3, c4]; rw [hw] at hu; have hu : u = (l.length + 1) + _ := hu; omega
      · rw [c3]; exact fun y hy => h.w0 y (by rw [hw]; exact List.mem_cons_of_mem _ hy)
      · rw [c3, c4]; rw [hw] at hu; have hu : u = (l.length + 1) + _ := hu; omega
    · have hw1 := h.w1
      have hjt := h.jt
      obtain ⟨d1, d2, d3⟩ := h.c.dry false
      rw [hw] at hw1
      unfold rrs at hw1
      by_cases c : k < j
      · rw [mapR_first _ c, List.cons_append] at hw1
        injection hw1 with e1 e2
        subst e1
        obtain ⟨r1, r2, r3, -⟩ := h.a.rr (N := k + 1) (by omega) (by omega) false
        have hmod : (k + 1) % 128 = k + 1 := Nat.mod_eq_of_lt (by omega)
        rw [h.c.m, h.wa, hmod] at r1
        rw [h.c.m, hmod] at r2
        rw [h.c.m, h.wa, hmod, d1, List.nil_append, h.ea] at r3
        have hlen : (itsI 128 0 L (min L.length (k + 4)) (min L.length (k + 1 + 4))).length = min L.length (k + 1 + 4) - min L.length (k + 4) := mapR_len _ _ _
        refine ⟨_, rfl, (num_R (e := k + 1) (by omega) false).len, ?_, ?_, ?_, ?_⟩
        · show ((p.a false).input _).os.length ≤ _; rw [r3, hlen]; omega
        · show ((p.a false).input _).od.r.length ≤ _; rw [r2.od, d3]; decide
        · show ((p.a false).input _).is.length ≤ _; rw [r2.is, d2]; decide
        · intro p' K
          have K : Carried p p' true l ((p.a false).input (itR 1 128 (k + 1) false)) := K
          have N := h.c.next K r1.ok (r2.m.trans (h.c.m false)) r1.tg (by rw [r2.od]; exact h.c.k false) ⟨by rw [r1.sn]; omega, by rw [r1.ak]; omega, by rw [r1.lo]; decide⟩ (by rw [r2.od, d3]; exact h.c.hd false) (by rw [r2.is, d2, dn_nil]; exact h.c.dn)
          obtain ⟨c1, c2, c3, c4, c5, c6, c7, c8⟩ := K
          have c1 : p'.a false = _ := c1
          have c2 : p'.a true = p.a true := c2
          have c3 : p'.way true = l := c3
          have c4 : p'.way false = p.way false ++ _ := c4
          rw [r3] at c4
          have c5 : p'.heard true = p.heard true := c5
          rw [r2.is, d2, dn_nil, Nat.add_zero] at c8
          refine ⟨(p'.way false).length + 2 * (p'.way true).length, ?_, .inl ⟨k + 1, j, N, ?_, by rw [c1]; exact r2.W.trans h.wa, by rw [c1]; show ((p.a false).input _).od.e = 0; rw [r2.od]; exact h.ea, by rw [c2]; exact h.sb, by rw [c2]; exact h.lb, c, by omega, ?_, c3.trans e2, c8.trans h.dn, by rw [c5]; exact h.hd⟩, rfl, ?_⟩
          · rw [c3, c4, List.length_append, hlen]; rw [hw] at hu; have hu : u = _ + 2 * (l.length + 1) := hu; omega
          · rw [c1]
            exact ⟨r1.ok.dry, r1.st, r1.tg, r1.f, r1.n, r1.ft, r1.l, r1.ts, r1.sn, r1.ak, r1.lo⟩
          · intro y hy
            rw [c4] at hy
            rcases List.mem_append.1 hy with hy | hy
            · exact h.w0 y hy
            · obtain ⟨i, -, -, rfl⟩ := mapR_mem hy; exact num_I hL false i
          · rw [c3, c4, List.length_append, hlen]; rw [hw] at hu; have hu : u = _ + 2 * (l.length + 1) := hu; omega
      · obtain rfl : k = j := by have := h.kj; omega
        rw [mapR_none, List.nil_append] at hw1
        injection hw1 with e1 e2
        subst e1 e2
        have hE := cdisc_at (h.c.m false) (h.c.tg false) (.inl h.a.st)
        refine ⟨_, hE, cdisc_len.1, ?_, ?_, ?_, ?_⟩
        · show ((p.a false).os ++ [_]).length ≤ _; rw [d1]; show 1 ≤ 100; decide
        · show (p.a false).od.r.length ≤ _; rw [d3]; decide
        · show ((p.a false).is ++ [2]).length ≤ _; rw [d2]; decide
        · intro p' K
          obtain ⟨m1, m2, m3⟩ := h.c.cs false
          have hll : (p.a false).lg.l.length = L.length - k := by rw [h.a.l, List.length_drop]
          have N := h.c.next K (((h.c.ok false).send 4 true).fin) (h.c.m false) (h.c.tg false) rfl ⟨m1, m2, by show (p.a false).lo + (p.a false).lg.l.length ≤ _; rw [h.a.lo, hll]; omega⟩ (by show _ + (p.a false).od.r.length ≤ _; rw [d3]; exact h.c.hd false) (by show p.downs + dn ((p.a false).is ++ [2]) ≤ _; rw [d2, h.dn]; decide)
          obtain ⟨c1, c2, c3, c4, c5, c6, c7, c8⟩ := K
          have c1 : p'.a false = _ := c1
          have c2 : p'.a true = p.a true := c2
          have c3 : p'.way true = [] := c3
          have c4 : p'.way false = p.way false ++ ((p.a false).os ++ [Aq.hd (p.a false).tg ++ enc 4 0 0 true ((p.a false).m : Int) ++ []]) := c4
          rw [d1, List.nil_append, h.a.tg, h.c.m] at c4
          have c4 : p'.way false = p.way false ++ [cua] := c4
          have c5 : p'.heard true = p.heard true := c5
          have c8 : p'.downs = p.downs + dn ((p.a false).is ++ [2]) := c8
          rw [d2, h.dn] at c8
          refine ⟨(p'.way false).length + 2 * (p'.way true).length, ?_, .inr (.inl ⟨N, by rw [c1]; rfl, by rw [c2]; exact h.sb, ?_, ⟨?_, ?_, ?_⟩, c3, ⟨_, c4, h.w0⟩, by rw [c8]; decide⟩), rfl, ?_⟩
          · rw [c3, c4, List.length_append]; rw [hw] at hu; have hu : u = _ + 2 * (0 + 1) := hu; show (_ + 1) + 2 * 0 < _; omega
          · rw [c2]; exact h.lb
          · rw [c1]; exact h.a.sn
          · rw [c1]; show (p.a false).ak + ((p.a false).lo + (p.a false).lg.l.length) = _; rw [h.a.ak, h.a.lo, hll]; omega
          · rw [c1, c5, h.hd]; show (p.a false).ak ≤ _; rw [h.a.ak]; exact Nat.le_refl _
          · rw [c3, c4, List.length_append]; rw [hw] at hu; have hu : u = _ + 2 * (0 + 1) := hu; show (_ + 1) + 2 * 0 ≤ _; omega
  · cases i
    · obtain ⟨R, r1, r2⟩ := h.w0
      rw [hw] at r1
      cases R with
      | nil =>
        rw [List.nil_append] at r1
        injection r1 with e1 e2
        subst e1 e2
        have hE := cua_at (h.c.m true) (h.c.tg true) h.sb
        obtain ⟨d1, d2, d3⟩ := h.c.dry true
        refine ⟨_, hE, cdisc_len.2, ?_, ?_, ?_, ?_⟩
        · show (p.a true).os.length ≤ _; rw [d1]; decide
        · show (p.a true).od.r.length ≤ _; rw [d3]; decide
        · show ((p.a true).is ++ [2]).length ≤ _; rw [d2]; decide
        · intro p' K
          obtain ⟨m1, m2, m3⟩ := h.c.cs true
          have hlo : (p.a true).lo + (p.a true).lg.l.length = (p.a true).lo := by rw [h.lb]; rfl
          have hdn := h.dn
          have N := h.c.next K ((h.c.ok true).fin) (h.c.m true) (h.c.tg true) rfl ⟨m1, m2, by show (p.a true).lo + (p.a true).lg.l.length ≤ _; rw [hlo]; exact m3⟩ (by show _ + (p.a true).od.r.length ≤ _; rw [d3]; exact h.c.hd true) (by show p.downs + dn ((p.a true).is ++ [2]) ≤ _; rw [d2]; show p.downs + 1 ≤ _; omega)
          obtain ⟨c1, c2, c3, c4, c5, c6, c7, c8⟩ := K
          have c1 : p'.a true = _ := c1
          have c2 : p'.a false = p.a false := c2
          have c3 : p'.way false = [] := c3
          have c4 : p'.way true = p.way true ++ (p.a true).os := c4
          rw [d1, List.append_nil, h.w1] at c4
          have c6 : p'.heard true = p.heard true ++ (p.a true).od.r := c6
          rw [d3, List.append_nil] at c6
          obtain ⟨n1, n2, n3⟩ := h.cnt
          refine ⟨(p'.way false).length + 2 * (p'.way true).length, ?_, .inr (.inr ⟨N, by rw [c2]; exact h.sa, by rw [c1]; rfl, by unfold Cnt; rw [c2, c6]; exact ⟨n1, n2, n3⟩, fun b => by cases b <;> assumption⟩), rfl, ?_⟩
          · rw [c3, c4]; rw [hw] at hu; have hu : u = (0 + 1) + _ := hu; show 0 < _; omega
          · rw [c3, c4]; decide
      | cons y R =>
        rw [List.cons_append] at r1
        injection r1 with e1 e2
        subst e1
        obtain ⟨k1, k2, k3, k4, k5, k6⟩ := skip h.c hw h.sb (r2 x List.mem_cons_self)
        refine ⟨_, k1, k2, k3, k4, k5, fun p' K => ?_⟩
        obtain ⟨N, ha, c3, c4, ch, cd⟩ := k6 p' K
        have c3 : p'.way false = l := c3
        have c4 : p'.way true = p.way true := c4
        refine ⟨(p'.way false).length + 2 * (p'.way true).length, ?_, .inr (.inl ⟨N, by rw [ha]; exact h.sa, by rw [ha]; exact h.sb, by rw [ha]; exact h.lb, by unfold Cnt; rw [ha, ch]; exact h.cnt, c4.trans h.w1, ⟨R, c3.trans e2, fun z hz => r2 z (List.mem_cons_of_mem _ hz)⟩, by rw [cd]; exact h.dn⟩), rfl, ?_⟩
        all_goals rw [c3, c4]; rw [hw] at hu; have hu : u = (l.length + 1) + _ := hu; omega
    · have := h.w1; rw [hw] at this; cases this
  · have := h.w i; rw [hw] at this; cases this
theorem JA.flow (hL : ∀ x ∈ L, x.length ≤ 50) (hn : L.length ≤ 100) : Flow (JA L) := Flow.of (by
  rintro u p ⟨h, hu, hb⟩
  refine ⟨?_, fun i => by cases i <;> omega⟩
  rcases h with ⟨j, h⟩ | h | h <;> exact h.c) (JA.steps hL hn)
theorem JB.flow (hL : ∀ x ∈ L, x.length ≤ 50) (hn : L.length ≤ 100) : Flow (JB L) := Flow.of (by
  rintro u p ⟨h, hu, hb⟩
  refine ⟨?_, fun i => by cases i <;> omega⟩
  rcases h with ⟨k, j, h⟩ | h | h <;> exact h.c) (JB.steps hL hn)
/-- at rest both are Down -/
def Fell (L : List (List UInt8)) (p : Pr) : Prop := (p.a false).st = 0 ∧ (p.a true).st = 0 ∧ Cnt L p
theorem JA.rest {u : Nat} (h : JA L u p) (hw : ∀ i, p.way i = []) : Fell L p := by
  rcases h.1 with ⟨j, h⟩ | h | h
  · obtain ⟨T, -, -, e⟩ := h.w0; rw [hw] at e; exact absurd e.symm (by simp)
  · obtain ⟨R, e, -⟩ := h.w1; rw [hw] at e; exact absurd e.symm (by simp)
  · exact ⟨h.sa, h.sb, h.cnt⟩
theorem JB.rest {u : Nat} (h : JB L u p) (hw : ∀ i, p.way i = []) : Fell L p := by
  rcases h.1 with ⟨k, j, h⟩ | h | h
  · have e := h.w1; rw [hw] at e; exact absurd e.symm (by simp)
  · obtain ⟨R, e, -⟩ := h.w0; rw [hw] at e; exact absurd e.symm (by simp)
  · exact ⟨h.sa, h.sb, h.cnt⟩
end
end Go.Proofs.Ytgkdabllaankcaa

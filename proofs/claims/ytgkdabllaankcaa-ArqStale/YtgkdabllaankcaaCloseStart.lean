/- Two ends of a session of which the first has sent n messages: how they begin, and how one of them comes to close. No condition. -/
import Derived.Test.YtgkdabllaankcaaClosePlain
namespace Go.Proofs.Ytgkdabllaankcaa
set_option linter.unusedVariables false

theorem hd_ne (x : List UInt8) (k ns nr : Int) (p : Bool) (m : Int) : Aq.hd 1 ++ enc k ns nr p m ++ x ≠ [] := by
  intro h
  have := congrArg List.length h
  rw [List.length_append, List.length_append] at this
  have h2 : (Aq.hd 1).length = 2 := rfl
  have h0 : ([] : List UInt8).length = 0 := rfl
  omega
theorem void_nil : Void [] where
  at_ := fun s _ _ _ => by unfold Aq.input; rw [if_pos (by decide)]
  len := by decide
  notI := fun e L p x => hd_ne _ _ _ _ _ _
  notR := fun k e p => hd_ne _ _ _ _ _ _
theorem outsFrom_its {m e : Nat} {S : List (List UInt8)} : ∀ (l : List (List UInt8)) (k : Nat), (∀ i, i < l.length → S.getD (k + i) [] = l.getD i []) → k + l.length ≤ m → outsFrom 1 m e k l = itsI m e S k (k + l.length)
  | [], k, _, _ => (itsI_none _ _ _ _).symm
  | x :: l, k, h, hm => by
    have hm : k + (l.length + 1) ≤ m := hm
    show _ :: outsFrom 1 m e (k + 1) l = itsI m e S k (k + (l.length + 1))
    rw [itsI_first _ _ _ (by omega), outsFrom_its l (k + 1) (fun i hi => by
      have := h (i + 1) (by show i + 1 < l.length + 1; omega)
      rw [show k + 1 + i = k + (i + 1) by omega, this]
      rfl) (by omega), show k + 1 + l.length = k + (l.length + 1) by omega]
    congr 1
    unfold itI
    have := h 0 (by show 0 < l.length + 1; omega)
    rw [Nat.add_zero] at this
    rw [this, Nat.mod_eq_of_lt (by omega : k < m)]
    rfl
section
variable {n : Nat} {Q : Nat} {Z : List UInt8} {p : Pr}
theorem wins_small (n : Nat) : ∀ x ∈ wins n, x.length ≤ 50 := by
  intro x hx
  obtain ⟨i, -, rfl⟩ := List.mem_map.1 hx
  exact (by decide : 1 ≤ 50)
/-- the two ends, the first of which has sent n messages -/
def sentP (Q n : Nat) : Pr := (upP (shapeC 128 4 Q)).setA false (sentS (upS (shapeC 128 4 Q)) (wins n))
theorem sent_os (Q : Nat) (hn : n ≤ 100) : (sentS (upS (shapeC 128 4 Q)) (wins n)).os = itsI 128 0 (wins n) 0 (min n 4) := by
  have e : (sentS (upS (shapeC 128 4 Q)) (wins n)).os = outsFrom 1 128 0 0 ((wins n).take 4) := rfl
  have hl : ((wins n).take 4).length = min n 4 := by rw [List.length_take, wins_len]; omega
  rw [e, outsFrom_its (S := wins n) _ 0 (fun i hi => by
    rw [Nat.zero_add, List.getD_eq_getElem?_getD, List.getD_eq_getElem?_getD, List.getElem?_take_of_lt (by rw [hl] at hi; omega)]) (by rw [hl]; omega), hl, Nat.zero_add]
theorem sent_room (Q : Nat) (hn : n ≤ 100) : (sentP Q n).Room := by
  have ho : (sentS (upS (shapeC 128 4 Q)) (wins n)).os.length ≤ 4 := by rw [sent_os Q hn]; unfold itsI; rw [mapR_len]; omega
  refine ⟨fun i => ?_, fun i => ?_, fun i => ?_, ?_⟩
  · cases i
    · show 0 + (sentS _ _).os.length ≤ _; omega
    · exact Nat.zero_le _
  · cases i <;> exact Nat.zero_le _
  · cases i <;> exact Nat.zero_le _
  · exact Nat.zero_le _
theorem line_start (V : Void Z) (hQ : Q ≤ 30) (hn : n ≤ 100) (ok : (sentS (upS (shapeC 128 4 Q)) (wins n)).Ok) : Line (wins n) Z 0 0 (sentP Q n).collect ∧ (sentP Q n).collect.way false = itsI 128 0 (wins n) 0 (min n 4) ∧ (sentP Q n).collect.way true = [] := by
  obtain ⟨c1, c2, c3, c4, c5, c6, c7, c8⟩ := collected (p := sentP Q n) (i := true) ⟨rfl, rfl, rfl⟩
  have c1 : (sentP Q n).collect.a false = (sentS (upS (shapeC 128 4 Q)) (wins n)).dry := c1
  have c2 : (sentP Q n).collect.a true = upS (shapeC 128 4 Q) := c2
  have c3 : (sentP Q n).collect.way true = [] := c3
  have c4 : (sentP Q n).collect.way false = [] ++ (sentS (upS (shapeC 128 4 Q)) (wins n)).os := c4
  rw [List.nil_append, sent_os Q hn] at c4
  have c5 : (sentP Q n).collect.heard true = [] := c5
  have c6 : (sentP Q n).collect.heard false = [] := c6
  have c8 : (sentP Q n).collect.downs = 0 := c8
  have hl : (wins n).length = n := wins_len n
  have hT : min (wins n).length (0 + 4) = min n 4 := by rw [hl]
  refine ⟨⟨?_, ?_, by rw [c1]; exact Aq.dry_dry _, by rw [c2]; exact ⟨rfl, rfl, rfl⟩, by rw [c1]; rfl, by rw [c2]; rfl, by rw [c1]; rfl, by rw [c1]; rfl, by rw [c1]; rfl, by rw [c2]; rfl, by rw [c2]; rfl, by rw [c2]; rfl, Nat.le_refl _, Nat.zero_le _, ?_, ?_, by rw [c5]; rfl, c6, c8⟩, c4, c3⟩
  · rw [c1, hT]
    refine ⟨ok.dry, rfl, rfl, rfl, ?_, Nat.zero_le _, rfl, by rw [hl]; omega, rfl, rfl, rfl⟩
    show min 4 (wins n).length = min n 4 - 0
    rw [hl]; omega
  · rw [c2]
    exact ⟨upS_ok _, rfl, rfl, rfl, rfl, Nat.le_refl _, rfl, Nat.le_refl _, rfl, rfl, rfl⟩
  · rw [c4, hT]
    exact keepZ_all fun y hy => by obtain ⟨i, -, -, rfl⟩ := mapR_mem hy; exact V.notI 0 _ false i
  · rw [c3]; rfl
/-- nothing but messages and acknowledgements is under way -/
def LineC (n : Nat) (p : Pr) : Prop := (∃ j k, Line (wins n) [] j k p) ∧ ∀ i, ∀ x ∈ p.way i, x ≠ []
theorem LineC.carry (h : LineC n p) (hn : n ≤ 100) (i : Bool) : LineC n (p.carry i false) := by
  obtain ⟨⟨j, k, h⟩, hz⟩ := h
  cases hw : p.way i with
  | nil => rw [Pr.carry_nil hw]; exact ⟨⟨j, k, h⟩, hz⟩
  | cons x l =>
    have hx : x ≠ [] := hz i x (by rw [hw]; exact List.mem_cons_self)
    have hl : ∀ y ∈ l, y ≠ [] := fun y hy => hz i y (by rw [hw]; exact List.mem_cons_of_mem _ hy)
    cases i
    · obtain ⟨h1, h2, h3, -⟩ := h.msg void_nil (wins_small n) (by rw [wins_len]; exact hn) hw hx
      refine ⟨⟨_, _, h1⟩, fun b => ?_⟩
      cases b
      · rw [h2]; exact hl
      · rw [h3]
        intro y hy
        rcases List.mem_append.1 hy with hy | hy
        · exact hz true y hy
        · rw [List.mem_singleton.1 hy]; exact void_nil.notR _ _ _
    · obtain ⟨h1, h2, h3, -⟩ := h.ack void_nil (by rw [wins_len]; exact hn) hw hx
      refine ⟨⟨_, _, h1⟩, fun b => ?_⟩
      cases b
      · rw [h3]
        intro y hy
        rcases List.mem_append.1 hy with hy | hy
        · exact hz false y hy
        · obtain ⟨i, -, -, rfl⟩ := mapR_mem hy; exact void_nil.notI 0 _ false i
      · rw [h2]; exact hl
theorem LineC.ways {j k : Nat} (h : Line (wins n) [] j k p) (hz : ∀ i, ∀ x ∈ p.way i, x ≠ []) : p.way false = itsI 128 0 (wins n) j (min n (k + 4)) ∧ p.way true = rrs k j := by
  have h0 := h.w0
  have h1 := h.w1
  rw [keepZ_all (hz false), wins_len] at h0
  rw [keepZ_all (hz true)] at h1
  exact ⟨h0, h1⟩
theorem LineC.room (h : LineC n p) (hn : n ≤ 100) (i : Bool) : Roomy p i := by
  obtain ⟨⟨j, k, h⟩, hz⟩ := h
  obtain ⟨w0, w1⟩ := LineC.ways h hz
  have hj := h.jt
  rw [wins_len] at hj
  refine h.roomy void_nil (wins_small n) (by rw [wins_len]; exact hn) ?_ ?_ i
  · rw [w0]; unfold itsI; rw [mapR_len]; omega
  · rw [w1]; unfold rrs; rw [mapR_len]; omega
theorem Line.calm {L : List (List UInt8)} {j k : Nat} (h : Line L Z j k p) (hn : L.length ≤ 100) : Calm p := by
  have hk := h.a.ts
  have hf := h.a.ft
  have hj := h.jt
  refine ⟨fun i => ?_, fun i => (h.up i).2.2.2, fun i => (h.up i).2.2.1, fun i => (h.up i).2.1, fun i => ?_, fun i => ?_, fun i => ?_, by rw [h.downs]; decide⟩
  · cases i
    · exact h.a.ok
    · exact h.b.ok
  · cases i
    · exact h.ka
    · exact h.kb
  · cases i
    · rw [h.a.sn, h.a.ak, h.a.lo]; omega
    · rw [h.b.sn, h.b.ak, h.b.lo]; exact ⟨by decide, by decide, by decide⟩
  · cases i
    · rw [h.heard0]; decide
    · rw [h.heard]; omega
/-- an end closes that has told all -/
theorem closed {s : Aq} (hst : s.st = 2) (hm : s.m = 128) (ht : s.tg = 1) (hd : s.Dry) : s.close.os = [cdisc] ∧ s.close.st = 3 ∧ s.close.is = [] ∧ s.close.od.r = [] ∧ s.close.od.k = [] ∧ s.close.lg.l = [] ∧ s.close.sn = s.sn ∧ s.close.ak = s.ak ∧ s.close.lo = s.lo + s.lg.l.length ∧ s.close.m = 128 ∧ s.close.tg = 1 ∧ s.closeE = 0 ∧ s.close.close = s.close ∧ s.close.closeE = 7 := by
  have e : s.close = ((s.clear.setSt 3).send 5 true).start := by unfold Aq.close; rw [if_neg (by omega)]
  have e2 : ∀ t : Aq, t.st = 3 → t.close = t ∧ t.closeE = 7 := fun t h => by unfold Aq.close Aq.closeE; rw [if_pos (.inr h), if_pos (.inr h)]; exact ⟨rfl, rfl⟩
  have e3 := e2 (((s.clear.setSt 3).send 5 true).start) rfl
  obtain ⟨d1, d2, d3⟩ := hd
  rw [e]
  refine ⟨?_, rfl, d2, d3, rfl, rfl, rfl, rfl, rfl, hm, ht, by unfold Aq.closeE; rw [if_neg (by omega)], e3.1, e3.2⟩
  show s.os ++ [Aq.hd s.tg ++ enc 5 0 0 true (s.m : Int) ++ []] = _
  rw [d1, hm, ht]
  rfl
/-- what the closing of an end begins -/
structure Ending' (n : Nat) (q : Pr) : Prop where
  ex : ∃ J : Nat → Pr → Prop, Flow J ∧ (∃ u, u ≤ 200 ∧ J u q) ∧ ∀ u p, J u p → (∀ i, p.way i = []) → Fell (wins n) p
theorem LineC.closes (h : LineC n p) (hn : n ≤ 20) (i : Bool) : (p.a i).os.length ≤ 1000000 ∧ (p.a i).lo ≤ 1000000000000 ∧ (p.a i).closeE = 0 ∧ (p.a i).close.os.length ≤ 1000000 ∧ (p.a i).close.lo ≤ 1000000000000 ∧ (p.a i).close.close = (p.a i).close ∧ (p.a i).close.closeE = 7 ∧ (p.setA i (p.a i).close).Room ∧ Ending' n (p.setA i (p.a i).close).collect := by
  obtain ⟨⟨j, k, h⟩, hz⟩ := h
  obtain ⟨w0, w1⟩ := LineC.ways h hz
  have C := h.calm (by rw [wins_len]; omega)
  have hup : (p.a i).st = 2 := (h.up i).1
  obtain ⟨e1, e2, e3, e4, e5, e6, e7, e8, e9, e10, e11, e12, e13, e14⟩ := closed hup (C.m i) (C.tg i) (C.dry i)
  have hlo : (p.a i).close.lo ≤ 1000 := by
    rw [e9]
    cases i
    · rw [h.a.lo, h.a.l, List.length_drop, wins_len]; omega
    · rw [h.b.lo, h.b.l]; decide
  have hj := h.jt
  have hkj := h.kj
  rw [wins_len] at hj
  have l0 : (p.way false).length ≤ 100 := by rw [w0]; unfold itsI; rw [mapR_len]; omega
  have l1 : (p.way true).length ≤ 100 := by rw [w1]; unfold rrs; rw [mapR_len]; omega
  have hdn := h.downs
  refine ⟨by rw [(C.dry i).1]; decide, by have := (C.cs i).2.2; omega, e12, by rw [e1]; decide, by omega, e13, e14, ⟨fun b => ?_, fun b => ?_, fun b => ?_, ?_⟩, ?_⟩
  · cases i <;> cases b
    · show (p.way false).length + (p.a false).close.os.length ≤ _; rw [e1]; show _ + 1 ≤ _; omega
    · show (p.way true).length + (p.a true).os.length ≤ _; rw [(C.dry true).1]; show _ + 0 ≤ _; omega
    · show (p.way false).length + (p.a false).os.length ≤ _; rw [(C.dry false).1]; show _ + 0 ≤ _; omega
    · show (p.way true).length + (p.a true).close.os.length ≤ _; rw [e1]; show _ + 1 ≤ _; omega
  · have q := C.hd b
    cases i <;> cases b
    · show (p.heard false).length + (p.a false).close.od.r.length ≤ _; rw [e4]; show _ + 0 ≤ _; omega
    · show (p.heard true).length + (p.a true).od.r.length ≤ _; rw [(C.dry true).2.2]; show _ + 0 ≤ _; omega
    · show (p.heard false).length + (p.a false).od.r.length ≤ _; rw [(C.dry false).2.2]; show _ + 0 ≤ _; omega
    · show (p.heard true).length + (p.a true).close.od.r.length ≤ _; rw [e4]; show _ + 0 ≤ _; omega
  · cases i <;> cases b
    · show (p.a false).close.is.length ≤ _; rw [e3]; decide
    · show (p.a true).is.length ≤ _; rw [(C.dry true).2.1]; decide
    · show (p.a false).is.length ≤ _; rw [(C.dry false).2.1]; decide
    · show (p.a true).close.is.length ≤ _; rw [e3]; decide
  · cases i
    · show p.downs + (p.a false).close.is.length + (p.a true).is.length ≤ _; rw [e3, (C.dry true).2.1, hdn]; decide
    · show p.downs + (p.a false).is.length + (p.a true).close.is.length ≤ _; rw [e3, (C.dry false).2.1, hdn]; decide
  · have K := collected (p := p.setA i (p.a i).close) (i := !i) (by cases i; exact C.dry true; exact C.dry false)
    have ok := (C.ok i).close
    have hcs := C.cs i
    cases i
    · have K : Carried (p.setA false (p.a false).close) (p.setA false (p.a false).close).collect true (p.way true) (p.a false).close := K
      have C' : Calm (p.setA false (p.a false).close).collect := by
        obtain ⟨c1, c2, c3, c4, c5, c6, c7, c8⟩ := K
        have c2 : (p.setA false (p.a false).close).collect.a true = p.a true := c2
        have c1 : (p.setA false (p.a false).close).collect.a false = (p.a false).close.dry := c1
        refine ⟨both true (by rw [c2]; exact C.ok true) (by show Aq.Ok (Pr.a _ false); rw [c1]; exact ok.dry), both true (by rw [c2]; exact C.dry true) (by show Aq.Dry (Pr.a _ false); rw [c1]; exact Aq.dry_dry _), both true (by rw [c2]; exact C.m true) (by show (Pr.a _ false).m = 128; rw [c1]; exact e10), both true (by rw [c2]; exact C.tg true) (by show (Pr.a _ false).tg = 1; rw [c1]; exact e11), both true (by rw [c2]; exact C.k true) (by show (Pr.a _ false).od.k = []; rw [c1]; exact e5), both true (by rw [c2]; exact C.cs true) (by show (Pr.a _ false).sn ≤ 1000 ∧ (Pr.a _ false).ak ≤ 1000 ∧ (Pr.a _ false).lo ≤ 1000; rw [c1]; exact ⟨by show (p.a false).close.sn ≤ _; rw [e7]; exact hcs.1, by show (p.a false).close.ak ≤ _; rw [e8]; exact hcs.2.1, hlo⟩), both true (by rw [c5]; exact C.hd true) (by rw [c6, e4, List.append_nil]; exact C.hd false), by rw [c8, e3, dn_nil]; exact C.dn⟩
      obtain ⟨c1, c2, c3, c4, c5, c6, c7, c8⟩ := K
      have c1 : (p.setA false (p.a false).close).collect.a false = (p.a false).close.dry := c1
      have c2 : (p.setA false (p.a false).close).collect.a true = p.a true := c2
      have c3 : (p.setA false (p.a false).close).collect.way true = p.way true := c3
      have c4 : (p.setA false (p.a false).close).collect.way false = p.way false ++ (p.a false).close.os := c4
      rw [e1] at c4
      have c5 : (p.setA false (p.a false).close).collect.heard true = p.heard true := c5
      rw [e3, dn_nil] at c8
      have hll : (p.a false).lg.l.length = n - k := by rw [h.a.l, List.length_drop, wins_len]
      refine ⟨JA (wins n), JA.flow (wins_small n) (by rw [wins_len]; omega), ⟨_, ?_, .inl ⟨j, C', by rw [c1]; exact e2, by rw [c1]; exact e6, by rw [c2]; exact h.b, by rw [c2]; exact h.eb, by rw [c2]; exact h.szb, ⟨?_, ?_, ?_⟩, ⟨min n (k + 4), hj, by rw [wins_len]; omega, by rw [c4, w0]⟩, ?_, c8.trans hdn, by rw [c5]; exact h.heard⟩, rfl, ?_⟩, fun u p' hJ hw => hJ.rest hw⟩
      · rw [c4, c3, List.length_append]; show 2 * (_ + 1) + _ ≤ _; rw [w0, w1]; unfold itsI rrs; rw [mapR_len, mapR_len]; omega
      · rw [c1]; show (p.a false).close.sn = _; rw [e7]; exact h.a.sn
      · rw [c1]; show (p.a false).close.ak + (p.a false).close.lo = _; rw [e8, e9, h.a.ak, h.a.lo, hll, wins_len]; omega
      · rw [c1, c5, h.heard]; show (p.a false).close.ak ≤ _; rw [e8, h.a.ak]; exact hkj
      · rw [c3, w1]; intro y hy; obtain ⟨i, -, q, rfl⟩ := mapR_mem hy; exact num_R (by omega) false
      · rw [c4, c3, List.length_append]; show 2 * (_ + 1) + _ ≤ _; omega
    · have K : Carried (p.setA true (p.a true).close) (p.setA true (p.a true).close).collect false (p.way false) (p.a true).close := K
      have C' : Calm (p.setA true (p.a true).close).collect := by
        obtain ⟨c1, c2, c3, c4, c5, c6, c7, c8⟩ := K
        have c2 : (p.setA true (p.a true).close).collect.a false = p.a false := c2
        have c1 : (p.setA true (p.a true).close).collect.a true = (p.a true).close.dry := c1
        refine ⟨both false (by rw [c2]; exact C.ok false) (by show Aq.Ok (Pr.a _ true); rw [c1]; exact ok.dry), both false (by rw [c2]; exact C.dry false) (by show Aq.Dry (Pr.a _ true); rw [c1]; exact Aq.dry_dry _), both false (by rw [c2]; exact C.m false) (by show (Pr.a _ true).m = 128; rw [c1]; exact e10), both false (by rw [c2]; exact C.tg false) (by show (Pr.a _ true).tg = 1; rw [c1]; exact e11), both false (by rw [c2]; exact C.k false) (by show (Pr.a _ true).od.k = []; rw [c1]; exact e5), both false (by rw [c2]; exact C.cs false) (by show (Pr.a _ true).sn ≤ 1000 ∧ (Pr.a _ true).ak ≤ 1000 ∧ (Pr.a _ true).lo ≤ 1000; rw [c1]; exact ⟨by show (p.a true).close.sn ≤ _; rw [e7]; exact hcs.1, by show (p.a true).close.ak ≤ _; rw [e8]; exact hcs.2.1, hlo⟩), both false (by rw [c5]; exact C.hd false) (by rw [c6, e4, List.append_nil]; exact C.hd true), by rw [c8, e3, dn_nil]; exact C.dn⟩
      obtain ⟨c1, c2, c3, c4, c5, c6, c7, c8⟩ := K
      have c1 : (p.setA true (p.a true).close).collect.a true = (p.a true).close.dry := c1
      have c2 : (p.setA true (p.a true).close).collect.a false = p.a false := c2
      have c3 : (p.setA true (p.a true).close).collect.way false = p.way false := c3
      have c4 : (p.setA true (p.a true).close).collect.way true = p.way true ++ (p.a true).close.os := c4
      rw [e1, w1] at c4
      have c6 : (p.setA true (p.a true).close).collect.heard true = p.heard true ++ (p.a true).close.od.r := c6
      rw [e4, List.append_nil] at c6
      rw [e3, dn_nil] at c8
      refine ⟨JB (wins n), JB.flow (wins_small n) (by rw [wins_len]; omega), ⟨_, ?_, .inl ⟨k, j, C', by rw [c2]; exact h.a, by rw [c2]; exact h.wa, by rw [c2]; exact h.ea, by rw [c1]; exact e2, by rw [c1]; exact e6, hkj, by rw [wins_len]; exact hj, ?_, c4, c8.trans hdn, by rw [c6]; exact h.heard⟩, rfl, ?_⟩, fun u p' hJ hw => hJ.rest hw⟩
      · rw [c4, c3, List.length_append]; show _ + 2 * (_ + 1) ≤ _; rw [w0]; unfold itsI rrs; rw [mapR_len, mapR_len]; omega
      · rw [c3, w0]; intro y hy; obtain ⟨i, -, q, rfl⟩ := mapR_mem hy; exact num_I (wins_small n) false i
      · rw [c4, c3, List.length_append]; show _ + 2 * (_ + 1) ≤ _; rw [w0]; unfold itsI rrs; rw [mapR_len, mapR_len]; omega
end
end Go.Proofs.Ytgkdabllaankcaa

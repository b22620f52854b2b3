/- Two ends that both send over lines that lose, plainly: what each call of one end leaves. No condition. -/
import Derived.Test.YtgkdabllaankcaaTwoPlain
namespace Go.Proofs.Ytgkdabllaankcaa
set_option linter.unusedVariables false

section
variable {S S2 : List (List UInt8)} {F T N M W : Nat} {s : Aq}
/-- an acknowledgement comes -/
theorem in_ack (h : Snd S F T s) (hm : s.m = M) (h1 : F ≤ N) (h2 : N ≤ T) (k q : Bool) : ∃ a, Snd S N (min S.length (N + s.lg.W)) (s.input (itR (if k then 2 else 1) M (N % M) q)) ∧ Like s (s.input (itR (if k then 2 else 1) M (N % M) q)) ∧ (s.input (itR (if k then 2 else 1) M (N % M) q)).os = s.os ++ itsI s.m s.od.e S a (min S.length (N + s.lg.W)) ∧ N ≤ a := by
  subst hm
  cases k
  · obtain ⟨r1, r2, r3, -⟩ := h.rr h1 h2 q
    exact ⟨T, r1, r2, r3, h2⟩
  · obtain ⟨w1, w2, w3, w4⟩ := h.w
    have hr := Aq.right_RR h.ok.m2 (k := 2) (.inr rfl) (Nat.mod_lt N (by omega : 0 < s.m))
    obtain ⟨a1, a2, a3, a4, a5⟩ := h.acks h1 h2
    have hin : s.input (itR 2 s.m (N % s.m) q) = ((s.acks ((N % s.m : Nat) : Int)).retr).pump := by
      unfold itR
      rw [Aq.input_enc (s := s) (t := 1) (by decide) (p := q) (x := []) hr]
      unfold Aq.proc
      rw [if_neg (by decide), if_neg (by decide), if_neg (by decide), if_neg (by decide), if_neg (by decide)]
      unfold Aq.numbd
      rw [if_neg (by rw [h.st]; decide), if_pos ⟨h.tg.symm, h.st⟩, if_neg (by simp)]
      unfold Aq.exch
      rw [if_neg (by decide), if_pos ⟨rfl, a5⟩]
    obtain ⟨b1, b2, b3, -⟩ := a1.retr
    obtain ⟨c1, c2, c3, -⟩ := b1.pump
    have hl := a2.trans b2
    rw [hl.W] at c1 c3
    refine ⟨N, ?_⟩
    show Snd _ _ _ (s.input (itR 2 s.m (N % s.m) q)) ∧ Like s (s.input (itR 2 s.m (N % s.m) q)) ∧ (s.input (itR 2 s.m (N % s.m) q)).os = _ ∧ _
    rw [hin]
    have hts := h.ts
    refine ⟨c1, hl.trans c2, ?_, Nat.le_refl _⟩
    rw [c3, hl.m, hl.od, b3, a2.m, a2.od, a3, List.append_assoc]
    unfold itsI
    rw [mapR_cat _ h2 (by omega)]
/-- all else but the order is as it was -/
structure Like2 (s s' : Aq) : Prop where
  is : s'.is = s.is
  m : s'.m = s.m
  sz : s'.sz = s.sz
  t1 : s'.t1 = s.t1
  n2 : s'.n2 = s.n2
  W : s'.lg.W = s.lg.W
  Q : s'.lg.Q = s.lg.Q
  tr : s.tr ≤ s.n2 → s'.tr ≤ s'.n2
theorem Cfg.like2 {s' : Aq} (h : Cfg M W s) (k : Like2 s s') : Cfg M W s' := ⟨k.m.trans h.m, k.W.trans h.w, by rw [k.Q]; exact h.q, k.sz.trans h.sz, k.t1.trans h.t1, k.n2.trans h.n2, k.tr h.tr⟩
theorem answer_os (s : Aq) (htg : s.tg = 1) (p : Bool) : ∃ (rej pp rj' : Bool), s.answer p = ({ s with rj := rj', os := s.os ++ [itR (if rej then 2 else 1) s.m s.od.e pp] } : Aq) := by
  unfold Aq.answer
  split
  · refine ⟨true, false, true, ?_⟩
    have e : Aq.hd s.tg ++ enc 2 0 ((s.od.e : Nat) : Int) false (s.m : Int) ++ [] = itR 2 s.m s.od.e false := by rw [htg]; rfl
    show Aq.mk _ _ _ _ _ _ _ _ _ _ _ (s.os ++ [Aq.hd s.tg ++ enc 2 0 ((s.od.e : Nat) : Int) false (s.m : Int) ++ []]) _ _ _ _ = _
    rw [e]
    rfl
  · refine ⟨false, p, s.rj, ?_⟩
    have e : Aq.hd s.tg ++ enc 1 0 ((s.od.e : Nat) : Int) p (s.m : Int) ++ [] = itR 1 s.m s.od.e p := by rw [htg]; rfl
    show Aq.mk _ _ _ _ _ _ _ _ _ _ _ (s.os ++ [Aq.hd s.tg ++ enc 1 0 ((s.od.e : Nat) : Int) p (s.m : Int) ++ []]) _ _ _ _ = _
    rw [e]
    rfl
/-- a message comes -/
theorem in_msg (h : Snd S F T s) (hm : s.m = M) (h1 : F ≤ N) (h2 : N ≤ T) (X : Nat) (hx : (S2.getD X []).length ≤ s.sz) (q : Bool) :
    ∃ (rej pp : Bool), Snd S N (min S.length (N + s.lg.W)) (s.input (itI M (N % M) S2 q X)) ∧ Like2 s (s.input (itI M (N % M) S2 q X)) ∧ (s.input (itI M (N % M) S2 q X)).od = s.od.put (nm M X) (S2.getD X []) ∧
      (s.input (itI M (N % M) S2 q X)).os = s.os ++ [itR (if rej then 2 else 1) M (s.od.put (nm M X) (S2.getD X [])).e pp] ++ itsI M (s.od.put (nm M X) (S2.getD X [])).e S T (min S.length (N + s.lg.W)) := by
  subst hm
  obtain ⟨w1, w2, w3, w4⟩ := h.w
  have hr := Aq.right_I h.ok.m2 (Nat.mod_lt X (by omega : 0 < s.m)) (Nat.mod_lt N (by omega : 0 < s.m))
  obtain ⟨a1, a2, a3, a4, a5⟩ := h.acks h1 h2
  have hin : s.input (itI s.m (N % s.m) S2 q X) = ((s.acks ((N % s.m : Nat) : Int)).take (nm s.m X) (S2.getD X []) q).pump := by
    unfold itI
    rw [Aq.input_enc (s := s) (t := 1) (by decide) (p := q) (x := S2.getD X []) hr]
    unfold Aq.proc
    rw [if_neg (by decide), if_neg (by decide), if_neg (by decide), if_neg (by decide), if_neg (by decide)]
    unfold Aq.numbd
    rw [if_neg (by rw [h.st]; decide), if_pos ⟨h.tg.symm, h.st⟩, if_neg (fun c => by have := c.2; omega)]
    unfold Aq.exch
    rw [if_pos rfl, if_neg (by simp)]
    rfl
  have hsz := h.ok.szb
  have ok2 := a1.ok.take (nm s.m X) (x := S2.getD X []) (by omega) q
  obtain ⟨rej, pp, rj', e⟩ := answer_os ((s.acks ((N % s.m : Nat) : Int)).recvd (nm s.m X) (S2.getD X [])) a1.tg q
  have e : (s.acks ((N % s.m : Nat) : Int)).take (nm s.m X) (S2.getD X []) q = _ := e
  have eod : ((s.acks ((N % s.m : Nat) : Int)).recvd (nm s.m X) (S2.getD X [])).od = s.od.put (nm s.m X) (S2.getD X []) := by
    show (s.acks ((N % s.m : Nat) : Int)).od.put (nm s.m X) (S2.getD X []) = _
    rw [a2.od]
  rw [eod] at e
  have b1 : Snd S N T ((s.acks ((N % s.m : Nat) : Int)).take (nm s.m X) (S2.getD X []) q) := by
    rw [e] at ok2 ⊢
    exact ⟨ok2, a1.st, a1.tg, a1.f, a1.n, a1.ft, a1.l, a1.ts, a1.sn, a1.ak, a1.lo⟩
  have b2 : Like2 s ((s.acks ((N % s.m : Nat) : Int)).take (nm s.m X) (S2.getD X []) q) ∧ ((s.acks ((N % s.m : Nat) : Int)).take (nm s.m X) (S2.getD X []) q).od = s.od.put (nm s.m X) (S2.getD X []) ∧ ((s.acks ((N % s.m : Nat) : Int)).take (nm s.m X) (S2.getD X []) q).os = s.os ++ [itR (if rej then 2 else 1) s.m (s.od.put (nm s.m X) (S2.getD X [])).e pp] := by
    rw [e]
    refine ⟨⟨a2.is, a2.m, a2.sz, a2.t1, a2.n2, a2.W, a2.Q, a2.tr⟩, rfl, ?_⟩
    show (s.acks ((N % s.m : Nat) : Int)).os ++ [itR _ (s.acks ((N % s.m : Nat) : Int)).m _ pp] = _
    rw [a3, a2.m]
  obtain ⟨c1, c2, c3, -⟩ := b1.pump
  rw [hin]
  obtain ⟨g1, g2, g3⟩ := b2
  rw [g1.W] at c1 c3
  rw [g1.m, g2, g3] at c3
  exact ⟨rej, pp, c1, ⟨c2.is.trans g1.is, c2.m.trans g1.m, c2.sz.trans g1.sz, c2.t1.trans g1.t1, c2.n2.trans g1.n2, c2.W.trans g1.W, c2.Q.trans g1.Q, fun h0 => c2.tr (g1.tr h0)⟩, c2.od.trans g2, c3⟩
/-- a message is said -/
theorem say (h : Snd S F T s) (b : List UInt8) (hb : b.length ≤ s.sz) : (s.giveE b = 6 ∧ s.give b = s) ∨ (s.giveE b = 0 ∧ Snd (S ++ [b]) F (min (S.length + 1) (F + s.lg.W)) (s.give b) ∧ Like s (s.give b) ∧ (s.give b).os = s.os ++ itsI s.m s.od.e (S ++ [b]) T (min (S.length + 1) (F + s.lg.W))) := by
  have e1 : s.giveE b = s.lg.addE := by unfold Aq.giveE; rw [if_neg (by omega), if_neg (by rw [h.st]; simp)]
  have e2 : s.give b = if s.lg.full then s else ((s.setLg (s.lg.add b)).setSn (s.sn + 1)).pump := by unfold Aq.give; rw [if_neg (by omega), if_neg (by rw [h.st]; simp)]
  cases hf : s.lg.full with
  | true => exact .inl ⟨by rw [e1]; unfold Lg.addE; rw [hf]; rfl, by rw [e2, hf]; rfl⟩
  | false =>
    have ha : s.lg.add b = ⟨s.lg.m, s.lg.W, s.lg.Q, s.lg.f, s.lg.n, s.lg.l ++ [b]⟩ := by unfold Lg.add; rw [hf]; rfl
    have hts := h.ts
    have hft := h.ft
    have ok := (h.ok.add (x := b) (by have := h.ok.szb; omega)).setSn (s.sn + 1)
    rw [ha] at ok
    have k : Snd (S ++ [b]) F T ((s.setLg ⟨s.lg.m, s.lg.W, s.lg.Q, s.lg.f, s.lg.n, s.lg.l ++ [b]⟩).setSn (s.sn + 1)) := by
      refine ⟨ok, h.st, h.tg, h.f, h.n, h.ft, ?_, ?_, ?_, h.ak, h.lo⟩
      · show s.lg.l ++ [b] = (S ++ [b]).drop F
        rw [h.l, List.drop_append_of_le_length (by omega)]
      · rw [List.length_append]; show T ≤ S.length + 1; omega
      · show s.sn + 1 = _; rw [h.sn, List.length_append]; rfl
    obtain ⟨c1, c2, c3, -⟩ := k.pump
    have hl : (S ++ [b]).length = S.length + 1 := by rw [List.length_append]; rfl
    rw [hl] at c1 c3
    refine .inr ⟨by rw [e1]; unfold Lg.addE; rw [hf]; rfl, ?_⟩
    rw [e2, hf, if_neg (by simp), ha]
    exact ⟨c1, ⟨c2.od, c2.is, c2.rj, c2.m, c2.sz, c2.t1, c2.n2, c2.W, c2.Q, c2.tr⟩, c3⟩
/-- the timer has expired -/
theorem late1 (h : Snd S F T s) (hn : s.n2 = 100) : (s.expire.is = s.is ++ [2] ∧ s.expire.os = s.os ∧ s.expire.lf = 0 ∧ s.expire.od.r = s.od.r) ∨ (Snd S F T s.expire ∧ Like s s.expire ∧ ∃ n : List Nat, (∀ x ∈ n, F ≤ x ∧ x < T) ∧ n.length ≤ 1 ∧ s.expire.os = s.os ++ n.map (itI s.m s.od.e S true)) := by
  unfold Aq.expire
  by_cases c : s.n2 < s.tr + 1
  · rw [if_pos c]
    exact .inl ⟨rfl, rfl, rfl, rfl⟩
  · rw [if_neg c]
    refine .inr ?_
    have ok := ((h.ok.setTr (s.tr + 1)).start).late
    have e : ((s.setTr (s.tr + 1)).start).late = ((s.setTr (s.tr + 1)).start).ask := by
      unfold Aq.late
      rw [if_neg (by show ¬ s.st = 1; rw [h.st]; decide), if_neg (by show ¬ s.st = 3; rw [h.st]; decide), if_pos (by show s.st = 2; exact h.st)]
    rw [e] at ok ⊢
    have hlen : s.lg.out.length = T - F := by rw [Lg.out_len, h.n]
    unfold Aq.ask at ok ⊢
    have ho : ((s.setTr (s.tr + 1)).start).lg.out = s.lg.out := rfl
    rw [ho] at ok ⊢
    by_cases d : s.lg.out = []
    · rw [if_pos d] at ok ⊢
      refine ⟨⟨ok, h.st, h.tg, h.f, h.n, h.ft, h.l, h.ts, h.sn, h.ak, h.lo⟩, ⟨rfl, rfl, rfl, rfl, rfl, rfl, rfl, rfl, rfl, fun _ => by show s.tr + 1 ≤ s.n2; omega⟩, [], fun x hx => (List.not_mem_nil hx).elim, by decide, ?_⟩
      show s.os = s.os ++ []
      rw [List.append_nil]
    · rw [if_neg d] at ok ⊢
      have hlt : F < T := by
        have : 0 < s.lg.out.length := List.length_pos_iff.2 d
        omega
      obtain ⟨w1, w2, w3, w4⟩ := h.w
      obtain ⟨n1, n2, n3⟩ := h.num 0 (by omega)
      rw [Nat.add_zero, Nat.add_zero] at n1
      rw [Nat.add_zero] at n2 n3
      have h0 : s.lg.out.getD 0 0 = F % s.m := by
        unfold Lg.out
        rw [h.n, show T - F = (T - F - 1) + 1 by omega, List.range_succ_eq_map, List.map_cons]
        show (s.lg.f + 0) % s.lg.m = _
        rw [Nat.add_zero, n1]
      have hbody : ((s.setTr (s.tr + 1)).start).lg.body (((F % s.m : Nat)) : Int) = S.getD F [] := by
        show s.lg.body _ = _
        unfold Lg.body
        rw [Lg.has_nat n3, n2, if_pos (by simp; rw [h.n]; omega), Int.toNat_natCast, n2, h.l, drop_getD, Nat.add_zero]
      rw [h0, hbody] at ok ⊢
      refine ⟨⟨ok, h.st, h.tg, h.f, h.n, h.ft, h.l, h.ts, h.sn, h.ak, h.lo⟩, ⟨rfl, rfl, rfl, rfl, rfl, rfl, rfl, rfl, rfl, fun _ => by show s.tr + 1 ≤ s.n2; omega⟩, [F], fun x hx => by rw [List.mem_singleton.1 hx]; exact ⟨Nat.le_refl _, hlt⟩, Nat.le_refl _, ?_⟩
      show s.os ++ [Aq.hd s.tg ++ enc 0 ((F % s.m : Nat) : Int) (s.od.e : Int) true (s.m : Int) ++ S.getD F []] = _
      rw [h.tg]
      rfl
/-- steps pass -/
theorem passing : ∀ (f g : Nat) {s : Aq}, Snd S F T s → s.n2 = 100 → ((Aq.passN f g s).is = s.is ++ [2] ∧ (Aq.passN f g s).os.length ≤ s.os.length + f ∧ (Aq.passN f g s).od.r = s.od.r) ∨ (Snd S F T (Aq.passN f g s) ∧ Like s (Aq.passN f g s) ∧ ∃ n : List Nat, (∀ x ∈ n, F ≤ x ∧ x < T) ∧ n.length ≤ f ∧ (Aq.passN f g s).os = s.os ++ n.map (itI s.m s.od.e S true))
  | 0, g, s, h, hn => .inr ⟨h, Like.refl _, [], fun x hx => (List.not_mem_nil hx).elim, Nat.le_refl _, by show s.os = s.os ++ []; rw [List.append_nil]⟩
  | f + 1, g, s, h, hn => by
    unfold Aq.passN
    by_cases c : 0 < s.lf ∧ s.lf ≤ g
    · rw [if_pos c]
      rcases late1 h hn with ⟨e1, e2, e3, e4⟩ | ⟨k1, k2, n, k3, k4, k5⟩
      · have hst : ∀ f g, Aq.passN f g s.expire = s.expire := by
          intro f g
          cases f with
          | zero => rfl
          | succ f =>
            unfold Aq.passN
            rw [if_neg (by omega), if_neg (by omega)]
        rw [hst]
        exact .inl ⟨e1, by rw [e2]; omega, e4⟩
      · rcases passing f (g - s.lf) k1 (k2.n2.trans hn) with ⟨e1, e2, e3⟩ | ⟨j1, j2, n', j3, j4, j5⟩
        · refine .inl ⟨by rw [e1, k2.is], ?_, by rw [e3, k2.od]⟩
          rw [k5, List.length_append, List.length_map] at e2
          omega
        · refine .inr ⟨j1, k2.trans j2, n ++ n', fun x hx => (List.mem_append.1 hx).elim (k3 x) (j3 x), by rw [List.length_append]; omega, ?_⟩
          rw [j5, k5, k2.m, k2.od, List.map_append, List.append_assoc]
    · rw [if_neg c]
      split
      · have ok := h.ok.setLf (n := s.lf - g) (by have := h.ok.lfb; omega)
        exact .inr ⟨⟨ok, h.st, h.tg, h.f, h.n, h.ft, h.l, h.ts, h.sn, h.ak, h.lo⟩, ⟨rfl, rfl, rfl, rfl, rfl, rfl, rfl, rfl, rfl, fun h => h⟩, [], fun x hx => (List.not_mem_nil hx).elim, Nat.zero_le _, by show s.os = s.os ++ []; rw [List.append_nil]⟩
      · exact .inr ⟨h, Like.refl _, [], fun x hx => (List.not_mem_nil hx).elim, Nat.zero_le _, by show s.os = s.os ++ []; rw [List.append_nil]⟩
end
end Go.Proofs.Ytgkdabllaankcaa

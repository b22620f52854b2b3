/- Two ends that both send over lines that lose, plainly: each step leaves what holds of the numbers. No condition. -/
import Derived.Test.YtgkdabllaankcaaTwoActs
namespace Go.Proofs.Ytgkdabllaankcaa
set_option linter.unusedVariables false

theorem Od.dry_all (o : Od) : o.dry.all ≤ o.all := by
  show o.k.length + 0 ≤ o.k.length + o.r.length
  omega
section
variable {M W t : Nat} {p p' : Pr} {a : Bool → Nums} {i : Bool} {s' : Aq} {S' : List (List UInt8)} {F' T' E' B' : Nat} {K' : Nat → Prop} {wl n : List It}
theorem bset_ne {α : Type} {f : Bool → α} {i : Bool} {x : α} : bset f i x (!i) = f (!i) := bset_not
/-- an end has acted -/
theorem Two.act {j : Bool} (hj : j = !i) (h : Two M W t p a)
    (pa : p'.a i = s'.dry) (pb : p'.a j = p.a j) (pw : p'.way i = p.way i ++ s'.os) (pv : p'.way j = wl.map (It.bytes M (p.said j)))
    (ph : p'.heard i = p.heard i ++ s'.od.r) (ph' : p'.heard j = p.heard j) (ps : p'.said i = S') (ps' : p'.said j = p.said j) (pd : p'.downs = p.downs + dn s'.is)
    (hS : S' = p.said i ∨ ∃ m, m.length ≤ 50 ∧ S' = p.said i ++ [m])
    (hsnd : Snd S' F' T' s') (hrcv : Rcv M W (p.said j) E' B' K' s'.od) (hne : ¬ K' E') (hr : s'.od.r = rdy (p.said j) (a j).E E') (hE : (a j).E ≤ E') (hEB : B' ≤ (a j).T)
    (hc : Cfg M W s') (his : s'.is = []) (hos : s'.os = n.map (It.bytes M S')) (hn : New F' T' E' n) (hlen : n.length ≤ 60)
    (hF : F' ≤ (a i).E) (hT : (a i).T ≤ T') (hB : (a j).B ≤ B') (hnr : Nrs F' (a i).E wl) (hxs : Xs W (a j).T B' wl) (hwl : wl.length ≤ (a j).w.length) (hall : s'.od.dry.all ≤ t + 1) :
    Two M W (t + 1) p' (bset (bset a i ⟨F', T', (a i).E, (a i).B, (a i).K, (a i).w ++ n⟩) j ⟨(a j).F, (a j).T, E', B', K', wl⟩) := by
  subst hj
  obtain ⟨d, c, dr, wy, hh, hd, sm, ln⟩ := h
  have di := d i
  have dn' := d (!i)
  rw [Bool.not_not] at dn'
  obtain ⟨x1, x2, x3, x4, x5, x6, x7⟩ := di
  obtain ⟨y1, y2, y3, y4, y5, y6, y7⟩ := dn'
  have hW : T' ≤ F' + W := by have := hsnd.w; rw [hc.w] at this; have := hsnd.ft; omega
  have lenS : (p.said i).length ≤ S'.length ∧ S'.length ≤ (p.said i).length + 1 := by
    rcases hS with rfl | ⟨m, -, rfl⟩
    · omega
    · rw [List.length_append]; show _ ∧ _ + 1 ≤ _; omega
  have hTS := x1.ts
  have hxB : (a i).B ≤ (p.said i).length := Nat.le_trans x5 hTS
  have e1 : bset (bset a i ⟨F', T', (a i).E, (a i).B, (a i).K, (a i).w ++ n⟩) (!i) ⟨(a (!i)).F, (a (!i)).T, E', B', K', wl⟩ i = ⟨F', T', (a i).E, (a i).B, (a i).K, (a i).w ++ n⟩ := by rw [bset_not', bset_same]
  have e2 : bset (bset a i ⟨F', T', (a i).E, (a i).B, (a i).K, (a i).w ++ n⟩) (!i) ⟨(a (!i)).F, (a (!i)).T, E', B', K', wl⟩ (!i) = ⟨(a (!i)).F, (a (!i)).T, E', B', K', wl⟩ := bset_same
  generalize bset (bset a i ⟨F', T', (a i).E, (a i).B, (a i).K, (a i).w ++ n⟩) (!i) ⟨(a (!i)).F, (a (!i)).T, E', B', K', wl⟩ = A at *
  have rgrow : Rcv M W S' (a i).E (a i).B (a i).K (p.a (!i)).od := by
    rcases hS with rfl | ⟨m, -, rfl⟩
    · exact x2
    · exact x2.grow hxB m
  have wgrow : (a i).w.map (It.bytes M S') = (a i).w.map (It.bytes M (p.said i)) := by
    rcases hS with rfl | ⟨m, -, rfl⟩
    · rfl
    · exact It.bytes_grow m hTS x6
  have tgrow : S'.take (a i).E = (p.said i).take (a i).E := by
    rcases hS with rfl | ⟨m, -, rfl⟩
    · rfl
    · rw [List.take_append_of_le_length (by have := x2.eb; omega)]
  have both : ∀ {Q : Bool → Prop}, Q i → Q (!i) → ∀ b, Q b := fun h1 h2 b => by cases i <;> cases b <;> assumption
  have hEl : E' ≤ (p.said (!i)).length := by have := hrcv.eb; have := y1.ts; omega
  refine ⟨both ?_ ?_, both ?_ ?_, both ?_ ?_, both ?_ ?_, both ?_ ?_, by rw [pd, his, hd]; rfl, both ?_ ?_, both ?_ ?_⟩
  · rw [e1, e2, ps, pa, pb]
    refine ⟨⟨hsnd.ok.dry, hsnd.st, hsnd.tg, hsnd.f, hsnd.n, hsnd.ft, hsnd.l, hsnd.ts, hsnd.sn, hsnd.ak, hsnd.lo⟩, rgrow, x3, hF, Nat.le_trans x5 hT, ?_, hnr⟩
    exact Xs.more (F := F') (x6.raise hT) (Nat.le_trans x5 hT) hW (fun t ht => (hn t ht).2)
  · rw [Bool.not_not, e1, e2, ps', pa, pb]
    refine ⟨y1, hrcv.dry, hne, Nat.le_trans y4 hE, hEB, hxs, ?_⟩
    exact Nrs.more (y7.raise hE) (fun t ht => (hn t ht).1)
  · rw [pa]; exact ⟨hc.m, hc.w, hc.q, hc.sz, hc.t1, hc.n2, hc.tr⟩
  · rw [pb]; exact c (!i)
  · rw [pa]; exact Aq.dry_dry _
  · rw [pb]; exact dr (!i)
  · rw [e1, ps, pw, wy i, hos, List.map_append, wgrow]
  · rw [e2, ps', pv]
  · rw [e1, ps, ph', hh i, tgrow]
  · rw [Bool.not_not, e2, ps', ph, hr]
    have := hh (!i)
    rw [Bool.not_not] at this
    rw [this]
    exact take_rdy hE hEl
  · rw [ps]
    rcases hS with rfl | ⟨m, hm, rfl⟩
    · exact sm i
    · intro y hy
      rcases List.mem_append.1 hy with hy | hy
      · exact sm i y hy
      · rw [List.mem_singleton.1 hy]; exact hm
  · rw [ps']; exact sm (!i)
  · obtain ⟨l1, l2, l3⟩ := ln i
    rw [ps, pw, pa]
    refine ⟨by omega, ?_, hall⟩
    rw [List.length_append, hos, List.length_map]
    omega
  · obtain ⟨l1, l2, l3⟩ := ln (!i)
    rw [ps', pv, pb]
    refine ⟨by omega, ?_, by omega⟩
    rw [wy (!i), List.length_map] at l2
    rw [List.length_map]
    omega
/-- the first that is under way is lost -/
theorem Two.lose (h : Two M W t p a) {x : List UInt8} {l : List (List UInt8)} (hw : p.way i = x :: l) : ∃ a', Two M W (t + 1) (p.setWay i l) a' := by
  obtain ⟨d, c, dr, wy, hh, hd, sm, ln⟩ := h
  have wi := wy i
  rw [hw] at wi
  cases hwi : (a i).w with
  | nil => rw [hwi] at wi; cases wi
  | cons it wl =>
    rw [hwi, List.map_cons] at wi
    injection wi with w1 w2
    have e1 : bset a i ⟨(a i).F, (a i).T, (a i).E, (a i).B, (a i).K, wl⟩ i = ⟨(a i).F, (a i).T, (a i).E, (a i).B, (a i).K, wl⟩ := bset_same
    have e2 : bset a i ⟨(a i).F, (a i).T, (a i).E, (a i).B, (a i).K, wl⟩ (!i) = a (!i) := bset_not
    refine ⟨bset a i ⟨(a i).F, (a i).T, (a i).E, (a i).B, (a i).K, wl⟩, ?_⟩
    generalize bset a i ⟨(a i).F, (a i).T, (a i).E, (a i).B, (a i).K, wl⟩ = A at *
    have both : ∀ {Q : Bool → Prop}, Q i → Q (!i) → ∀ b, Q b := fun h1 h2 b => by cases i <;> cases b <;> assumption
    have pw : (p.setWay i l).way i = l := bset_same
    have pw' : (p.setWay i l).way (!i) = p.way (!i) := bset_not
    obtain ⟨x1, x2, x3, x4, x5, x6, x7⟩ := d i
    have dn' := d (!i)
    rw [Bool.not_not] at dn'
    obtain ⟨y1, y2, y3, y4, y5, y6, y7⟩ := dn'
    rw [hwi] at x6 y7
    refine ⟨both ?_ ?_, c, dr, both ?_ ?_, both ?_ ?_, hd, sm, both ?_ ?_⟩
    · rw [e1, e2]
      refine ⟨x1, x2, x3, x4, x5, ?_, x7⟩
      cases it with
      | msg z m q => show Xs W (a i).T (a i).B wl; exact x6.2.2.weaken (by omega)
      | ack j m q => exact x6
    · rw [Bool.not_not, e1, e2]
      exact ⟨y1, y2, y3, y4, y5, y6, y7.tail⟩
    · rw [e1, pw]; exact w2
    · rw [e2, pw']; exact wy (!i)
    · rw [e1]; exact hh i
    · rw [e2]; exact hh (!i)
    · obtain ⟨l1, l2, l3⟩ := ln i
      rw [hw] at l2
      have l2 : l.length + 1 ≤ _ := l2
      rw [pw]
      exact ⟨by show (p.said i).length ≤ _; omega, by omega, by show (p.a i).od.all ≤ _; omega⟩
    · obtain ⟨l1, l2, l3⟩ := ln (!i)
      rw [pw']
      exact ⟨by show (p.said (!i)).length ≤ _; omega, by omega, by show (p.a (!i)).od.all ≤ _; omega⟩
theorem collect_dry (hd : ∀ i, (p.a i).Dry) : p.collect = p := by
  have C := collected (hd false)
  obtain ⟨c1, c2, c3, c4, c5, c6, c7, c8⟩ := C
  have c1 : p.collect.a true = (p.a true).dry := c1
  have c4 : p.collect.way true = p.way true ++ (p.a true).os := c4
  have c6 : p.collect.heard true = p.heard true ++ (p.a true).od.r := c6
  have c8 : p.collect.downs = p.downs + dn (p.a true).is := c8
  rw [(hd true).same] at c1
  rw [(hd true).1, List.append_nil] at c4
  rw [(hd true).2.2, List.append_nil] at c6
  rw [(hd true).2.1, dn_nil, Nat.add_zero] at c8
  refine Pr.ext' (fun i => ?_) (fun i => ?_) (fun i => ?_) (fun i => by rw [c7]) c8
  all_goals cases i <;> assumption
/-- room for what one end has to tell -/
theorem Two.room (h : Two M W t p a) (ht : t ≤ 1000) (j : Bool) (S' : List (List UInt8)) (h1 : s'.os.length ≤ 1000) (h2 : s'.od.r.length ≤ 1000) (h3 : s'.is.length ≤ 10) : ((p.setA (!j) s').setSaid (!j) S').Room ∧ (p.setA (!j) s').Room := by
  have key : ∀ q : Pr, q.way = p.way → q.heard = p.heard → q.downs = p.downs → q.a = bset p.a (!j) s' → q.Room := by
    intro q e1 e2 e3 e4
    have hw : ∀ i, (p.way i).length ≤ 60000 := fun i => by have := (h.len i).2.1; omega
    have hh : ∀ i, (p.heard i).length ≤ 1000 := fun i => by
      have := h.heard (!i)
      rw [Bool.not_not] at this
      rw [this, List.length_take]
      have := (h.len (!i)).1
      omega
    have ho : ∀ i, (q.a i).os.length ≤ 1000 ∧ (q.a i).od.r.length ≤ 1000 ∧ (q.a i).is.length ≤ 10 := fun i => by
      rw [e4]
      unfold bset
      split
      · exact ⟨h1, h2, h3⟩
      · obtain ⟨d1, d2, d3⟩ := h.dry i
        rw [d1, d2, d3]
        exact ⟨by decide, by decide, by decide⟩
    refine ⟨fun i => ?_, fun i => ?_, fun i => ?_, ?_⟩
    · rw [e1]; have := hw i; have := (ho i).1; omega
    · rw [e2]; have := hh i; have := (ho i).2.1; omega
    · have := (ho i).2.2; omega
    · rw [e3, h.downs]; have := (ho false).2.2; have := (ho true).2.2; omega
  exact ⟨key _ rfl rfl rfl rfl, key _ rfl rfl rfl rfl⟩
/-- an end has told something of its own -/
theorem Two.own (h : Two M W t p a) (j : Bool) (hS : S' = p.said (!j) ∨ ∃ m, m.length ≤ 50 ∧ S' = p.said (!j) ++ [m])
    (hsnd : Snd S' (a (!j)).F T' s') (hod : s'.od = (p.a (!j)).od) (hc : Cfg M W s') (his : s'.is = []) (hos : s'.os = n.map (It.bytes M S')) (hn : New (a (!j)).F T' (a j).E n) (hlen : n.length ≤ 60) (hT : (a (!j)).T ≤ T') :
    ∃ a', Two M W (t + 1) ((p.setA (!j) s').setSaid (!j) S').collect a' := by
  have C := collected (p := (p.setA (!j) s').setSaid (!j) S') (i := j) (by show (bset p.a (!j) s' j).Dry; rw [bset_not']; exact h.dry j)
  obtain ⟨c1, c2, c3, c4, c5, c6, c7, c8⟩ := C
  have e1 : ((p.setA (!j) s').setSaid (!j) S').a (!j) = s' := bset_same
  have e2 : ((p.setA (!j) s').setSaid (!j) S').a j = p.a j := bset_not'
  have e3 : ((p.setA (!j) s').setSaid (!j) S').said (!j) = S' := bset_same
  have e4 : ((p.setA (!j) s').setSaid (!j) S').said j = p.said j := bset_not'
  rw [e1] at c1 c4 c6 c8
  rw [e2] at c2
  have d := h.dir j
  have hxs := d.ms
  have hnr := (h.dir (!j)).ks
  rw [Bool.not_not] at hnr
  have hdr : s'.od.r = [] := by rw [hod]; exact (h.dry (!j)).2.2
  refine ⟨_, h.act (i := !j) (j := j) (s' := s') (S' := S') (F' := (a (!j)).F) (T' := T') (E' := (a j).E) (B' := (a j).B) (K' := (a j).K) (wl := (a j).w) (n := n) (Bool.not_not j).symm c1 c2 c4 (c3.trans (h.way j)) c6 c5 (by rw [c7]; exact e3) (by rw [c7]; exact e4) c8 hS hsnd (by rw [hod]; exact d.rcv) d.ne (by rw [hdr]; unfold rdy; rw [mapR_none]) (Nat.le_refl _) d.bt hc his hos hn hlen (h.dir (!j)).fe hT (Nat.le_refl _) hnr hxs (Nat.le_refl _) ?_⟩
  rw [hod]
  have := (h.len (!j)).2.2
  have e : (p.a (!j)).od.dry.all ≤ (p.a (!j)).od.all := Od.dry_all _
  omega
/-- what is under way comes -/
theorem Two.come (hW : W ≤ 16) (h : Two M W t p a) (ht : t ≤ 1000) {j : Bool} {x : List UInt8} {l : List (List UInt8)} (hw : p.way j = x :: l) : Roomy p j ∧ ∃ a', Two M W (t + 1) (p.carry j false) a' := by
  have d := h.dir j
  have e := h.dir (!j)
  rw [Bool.not_not] at e
  have c := h.cfg (!j)
  obtain ⟨r1, r2, r3⟩ := h.dry (!j)
  have wj := h.way j
  rw [hw] at wj
  cases hwj : (a j).w with
  | nil => rw [hwj] at wj; cases wj
  | cons it wl =>
    rw [hwj, List.map_cons] at wj
    injection wj with w1 w2
    have hnr := e.ks
    have hxs := d.ms
    rw [hwj] at hnr hxs
    have hle := hnr.2.le
    have hbt := e.bt
    have heb := e.rcv.eb
    have K := carried (h.dry j) hw
    have ln := h.len (!j)
    have hxl : x.length ≤ 1000 := by
      rw [w1]
      cases it with
      | msg z m q =>
        have h1 := enc_len 0 ((z % M : Nat) : Int) ((m % M : Nat) : Int) q (M : Int)
        have h2 : ((p.said j).getD z []).length ≤ 50 := by
          rw [List.getD_eq_getElem?_getD]
          rcases hx : (p.said j)[z]? with _ | y
          · exact Nat.zero_le _
          · exact h.small j y (List.mem_of_getElem? hx)
        show (Aq.hd 1 ++ enc 0 ((z % M : Nat) : Int) ((m % M : Nat) : Int) q (M : Int) ++ (p.said j).getD z []).length ≤ _
        rw [List.length_append, List.length_append]
        show 2 + _ + _ ≤ _
        omega
      | ack k m q =>
        have h1 := enc_len (if k then 2 else 1) 0 ((m % M : Nat) : Int) q (M : Int)
        show (Aq.hd 1 ++ enc (if k then 2 else 1) 0 ((m % M : Nat) : Int) q (M : Int) ++ []).length ≤ _
        rw [List.length_append, List.length_append]
        show 2 + _ + 0 ≤ _
        omega
    -- what the end makes of it
    have main : ∃ (s' : Aq) (T' E' B' : Nat) (K' : Nat → Prop) (n : List It), (p.a (!j)).input x = s' ∧ Snd (p.said (!j)) it.nr T' s' ∧ Rcv M W (p.said j) E' B' K' s'.od ∧ ¬ K' E' ∧ s'.od.r = rdy (p.said j) (a j).E E' ∧ (a j).E ≤ E' ∧ B' ≤ (a j).T ∧ Cfg M W s' ∧ s'.is = [] ∧ s'.os = n.map (It.bytes M (p.said (!j))) ∧ New it.nr T' E' n ∧ n.length ≤ W + 1 ∧ (a (!j)).T ≤ T' ∧ (a j).B ≤ B' ∧ Xs W (a j).T B' wl ∧ s'.od.dry.all ≤ t + 1 := by
      have h1 : (a (!j)).F ≤ it.nr := hnr.1
      have h2 : it.nr ≤ (a (!j)).T := by omega
      have hTT : (a (!j)).T ≤ min (p.said (!j)).length (it.nr + W) := by
        have := e.snd.ts
        have := e.snd.w.1
        rw [c.w] at this
        omega
      have hdry : (p.a (!j)).od.dry.all ≤ t := Nat.le_trans (Od.dry_all _) ln.2.2
      cases it with
      | ack k m q =>
        have h1 : (a (!j)).F ≤ m := h1
        have h2 : m ≤ (a (!j)).T := h2
        obtain ⟨b, k1, k2, k3, k4⟩ := in_ack e.snd c.m h1 h2 k q
        rw [c.w] at k1 k3
        rw [r1, List.nil_append, c.m, d.rcv.e, ← msgsI_bytes] at k3
        refine ⟨_, min (p.said (!j)).length (m + W), (a j).E, (a j).B, (a j).K, _, by rw [w1]; rfl, k1, by show Rcv _ _ _ _ _ _ (Aq.od _); rw [show (Aq.od _) = _ from k2.od]; exact d.rcv, d.ne, ?_, Nat.le_refl _, d.bt, c.like k2, k2.is.trans r2, k3, msgsI_new k4 (Nat.le_refl _), ?_, hTT, Nat.le_refl _, hxs, ?_⟩
        · show (Aq.od _).r = _
          rw [show (Aq.od _) = _ from k2.od, r3]
          unfold rdy
          rw [mapR_none]
        · rw [msgsI_len]; omega
        · show (Aq.od _).dry.all ≤ _
          rw [show (Aq.od _) = _ from k2.od]
          omega
      | msg z m q =>
        have h1 : (a (!j)).F ≤ m := h1
        have h2 : m ≤ (a (!j)).T := h2
        obtain ⟨g1, g2, g3⟩ := hxs
        have hz : ((p.said j).getD z []).length ≤ 50 := by
          rw [List.getD_eq_getElem?_getD]
          rcases hx : (p.said j)[z]? with _ | y
          · exact Nat.zero_le _
          · exact h.small j y (List.mem_of_getElem? hx)
        have hzE : z < (a j).E + W := by
          have := d.fe
          have := d.snd.w.1
          have := d.snd.ft
          rw [(h.cfg j).w] at *
          omega
        obtain ⟨E', K', q1, q2, q3, q4⟩ := d.rcv.put d.ne hzE g1 (by omega)
        obtain ⟨rej, pp, k1, k2, k3, k4⟩ := in_msg (S2 := p.said j) e.snd c.m h1 h2 z (by rw [c.sz]; exact hz) q
        rw [c.w] at k1 k4
        rw [r1, List.nil_append, q1.e, ← msgsI_bytes] at k4
        have k4 : ((p.a (!j)).input (itI M (m % M) (p.said j) q z)).os = (It.ack rej E' pp :: msgsI E' (a (!j)).T (min (p.said (!j)).length (m + W))).map (It.bytes M (p.said (!j))) := k4
        refine ⟨_, min (p.said (!j)).length (m + W), E', max (a j).B (z + 1), K', _, by rw [w1]; rfl, k1, by show Rcv _ _ _ _ _ _ (Aq.od _); rw [show (Aq.od _) = _ from k3]; exact q1, q2, ?_, q3, by have := d.bt; omega, c.like2 k2, k2.is.trans r2, k4, ?_, ?_, hTT, by omega, g3, ?_⟩
        · show (Aq.od _).r = _
          rw [show (Aq.od _) = _ from k3, q4, r3]
          rfl
        · exact New.cat (New.one_ack rej pp) (msgsI_new h2 (Nat.le_refl _))
        · show (msgsI _ _ _).length + 1 ≤ _
          rw [msgsI_len]
          have := e.snd.w.1
          have := e.snd.ft
          rw [c.w] at *
          omega
        · show (Aq.od _).dry.all ≤ _
          rw [show (Aq.od _) = _ from k3]
          have e1 := Od.put_all (p.a (!j)).od (nm M z) ((p.said j).getD z [])
          have e2 : ((p.a (!j)).od.put (nm M z) ((p.said j).getD z [])).dry.all ≤ ((p.a (!j)).od.put (nm M z) ((p.said j).getD z [])).all := Od.dry_all _
          omega
    obtain ⟨s', T', E', B', K', n, m1, m2, m3, m4, m5, m6, m7, m8, m9, m10, m11, m12, m13, m14, m15, m16⟩ := main
    rw [m1] at K
    have hsaid := fun i => (h.len i).1
    have hbE := m3.eb
    have hts := d.snd.ts
    have hrl : s'.od.r.length ≤ 1000 := by
      rw [m5]
      unfold rdy
      rw [mapR_len]
      have := hsaid j
      omega
    have hol : s'.os.length ≤ 60 := by rw [m10, List.length_map]; omega
    have hhd : ∀ i, (p.heard i).length ≤ 1000 := fun i => by
      have := h.heard (!i)
      rw [Bool.not_not] at this
      rw [this, List.length_take]
      have := hsaid (!i)
      omega
    have hwy : ∀ i, (p.way i).length ≤ 60000 := fun i => by have := (h.len i).2.1; omega
    refine ⟨roomy (h.dry j) fun x0 l0 hw0 => ?_, _, h.act (i := !j) (j := j) (s' := s') (S' := p.said (!j)) (F' := it.nr) (T' := T') (E' := E') (B' := B') (K' := K') (wl := wl) (n := n) (Bool.not_not j).symm K.a' K.a K.way' (K.way.trans w2) K.heard' K.heard (by rw [K.said]) (by rw [K.said]) K.downs (.inl rfl) m2 m3 m4 m5 m6 m7 m8 m9 m10 m11 (by omega) hle m13 m14 hnr.2 m15 (by rw [hwj]; exact Nat.le_succ _) m16⟩
    rw [hw] at hw0
    injection hw0 with q1 q2
    subst q1 q2
    rw [m1]
    have f1 := hwy j
    have f2 := hwy (!j)
    have f3 := hhd j
    have f4 := hhd (!j)
    have f5 := hsaid (!j)
    have f6 := e.snd.ft
    have f7 := e.snd.ts
    refine ⟨⟨by rw [r1]; decide, by rw [r2]; decide, by omega, by rw [e.snd.sn]; omega, by rw [e.snd.ak]; omega, by rw [e.snd.lo]; decide⟩, by omega, by omega, by omega, by omega, by omega, by rw [m9]; decide, by rw [h.downs]; decide⟩
end
end Go.Proofs.Ytgkdabllaankcaa

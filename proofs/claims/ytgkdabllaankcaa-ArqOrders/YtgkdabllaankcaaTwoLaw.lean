/- Two ends that both send over lines that lose, plainly: each action of the law, with its room. No condition. -/
import Derived.Test.YtgkdabllaankcaaTwoStep
namespace Go.Proofs.Ytgkdabllaankcaa
set_option linter.unusedVariables false

section
variable {M W t t' : Nat} {p : Pr} {a : Bool → Nums} {s' : Aq}
theorem Two.mono (h : Two M W t p a) (k : t ≤ t') : Two M W t' p a :=
  ⟨h.dir, h.cfg, h.dry, h.way, h.heard, h.downs, h.small, fun i => by have := h.len i; omega⟩
/-- room for whatever comes -/
theorem Two.roomA (h : Two M W t p a) (ht : t ≤ 1000) (i : Bool) : (p.a i).Room ∧ (p.a i).os.length = 0 ∧ (p.a i).sn ≤ 1000 ∧ (p.a i).lo = 0 := by
  have d := (h.dir i).snd
  obtain ⟨r1, r2, r3⟩ := h.dry i
  have l := h.len i
  have f := d.ft
  have g := d.ts
  exact ⟨⟨by rw [r1]; decide, by rw [r2]; decide, by omega, by rw [d.sn]; omega, by rw [d.ak]; omega, by rw [d.lo]; decide⟩, by rw [r1]; rfl, by rw [d.sn]; omega, d.lo⟩
theorem Two.roomP (h : Two M W t p a) (ht : t ≤ 1000) : p.Room ∧ p.collect = p := by
  have k := (h.room (s' := p.a false) ht true [] (by rw [(h.dry false).1]; decide) (by rw [(h.dry false).2.2]; decide) (by rw [(h.dry false).2.1]; decide)).2
  rw [show (!true) = false from rfl, Pr.setA_self] at k
  exact ⟨k, collect_dry h.dry⟩
theorem Two.send (hW : W ≤ 16) (h : Two M W t p a) (ht : t ≤ 1000) (j : Bool) (b : List UInt8) (hb : b.length ≤ 50) :
    ((p.a (!j)).giveE b = 6 ∧ (p.a (!j)).give b = p.a (!j)) ∨ ((p.a (!j)).giveE b = 0 ∧ ((p.setA (!j) ((p.a (!j)).give b)).setSaid (!j) (p.said (!j) ++ [b])).Room ∧ ∃ a', Two M W (t + 1) ((p.setA (!j) ((p.a (!j)).give b)).setSaid (!j) (p.said (!j) ++ [b])).collect a') := by
  have d := (h.dir (!j)).snd
  have e := h.dir j
  have c := h.cfg (!j)
  obtain ⟨r1, r2, r3⟩ := h.dry (!j)
  rcases say d b (by rw [c.sz]; exact hb) with k | ⟨k1, k2, k3, k4⟩
  · exact .inl k
  · refine .inr ⟨k1, ?_⟩
    have hs := d.ts
    have hw := d.w.1
    rw [c.w] at hw
    have hft := d.ft
    have hlen : (itsI (p.a (!j)).m (p.a (!j)).od.e (p.said (!j) ++ [b]) (a (!j)).T (min ((p.said (!j)).length + 1) ((a (!j)).F + (p.a (!j)).lg.W))).length ≤ 17 := by
      unfold itsI
      rw [mapR_len, c.w]
      omega
    have ho : ((p.a (!j)).give b).os.length ≤ 1000 := by rw [k4, r1, List.nil_append]; omega
    refine ⟨(h.room (s' := (p.a (!j)).give b) ht j _ ho (by rw [k3.od, r3]; decide) (by rw [k3.is, r2]; decide)).1, ?_⟩
    refine h.own j (S' := p.said (!j) ++ [b]) (s' := (p.a (!j)).give b) (T' := min ((p.said (!j)).length + 1) ((a (!j)).F + W)) (n := msgsI (a j).E (a (!j)).T (min ((p.said (!j)).length + 1) ((a (!j)).F + W))) (.inr ⟨b, hb, rfl⟩) (by rw [c.w] at k2; exact k2) k3.od (c.like k3) (k3.is.trans r2) ?_ (msgsI_new d.ft (Nat.le_refl _)) (by rw [msgsI_len]; omega) (by omega)
    rw [k4, r1, List.nil_append, c.m, c.w, e.rcv.e, msgsI_bytes]
theorem Two.again (hW : W ≤ 16) (h : Two M W t p a) (ht : t ≤ 1000) (j : Bool) : (p.a (!j)).os.length + (p.a (!j)).lg.n ≤ 1000000 ∧ (p.setA (!j) (p.a (!j)).again).Room ∧ ∃ a', Two M W (t + 1) (p.setA (!j) (p.a (!j)).again).collect a' := by
  have d := (h.dir (!j)).snd
  have e := h.dir j
  have c := h.cfg (!j)
  obtain ⟨r1, r2, r3⟩ := h.dry (!j)
  have ea : (p.a (!j)).again = (p.a (!j)).retr := by unfold Aq.again; rw [if_pos d.st]
  obtain ⟨k1, k2, k3, -⟩ := d.retr
  have hw := d.w.1
  rw [c.w] at hw
  have hlen : (itsI (p.a (!j)).m (p.a (!j)).od.e (p.said (!j)) (a (!j)).F (a (!j)).T).length ≤ 16 := by unfold itsI; rw [mapR_len]; omega
  rw [ea]
  refine ⟨by rw [r1, d.n]; show 0 + _ ≤ _; omega, (h.room (s' := (p.a (!j)).retr) ht j [] (by rw [k3, r1, List.nil_append]; omega) (by rw [k2.od, r3]; decide) (by rw [k2.is, r2]; decide)).2, ?_⟩
  have R := h.own j (S' := p.said (!j)) (s' := (p.a (!j)).retr) (T' := (a (!j)).T) (n := msgsI (a j).E (a (!j)).F (a (!j)).T) (.inl rfl) k1 k2.od (c.like k2) (k2.is.trans r2) (by rw [k3, r1, List.nil_append, c.m, e.rcv.e, msgsI_bytes]) (msgsI_new (Nat.le_refl _) (Nat.le_refl _)) (by rw [msgsI_len]; omega) (Nat.le_refl _)
  have e2 : (p.setA (!j) (p.a (!j)).retr).setSaid (!j) (p.said (!j)) = p.setA (!j) (p.a (!j)).retr := by
    unfold Pr.setSaid Pr.setA
    rw [bset_self]
  rw [e2] at R
  exact R
/-- steps pass: the session stands, or this end has given up -/
theorem Two.pass (hW : W ≤ 16) (h : Two M W t p a) (ht : t ≤ 1000) (j : Bool) {g : Int} (h0 : 0 ≤ g) (hg : g ≤ 16) :
    (p.a (!j)).Fits ∧ (p.setA (!j) ((p.a (!j)).pass g)).Room ∧ ((∃ a', Two M W (t + 1) (p.setA (!j) ((p.a (!j)).pass g)).collect a') ∨ (p.setA (!j) ((p.a (!j)).pass g)).collect.downs = 1) := by
  have d := (h.dir (!j)).snd
  have e := h.dir j
  have c := h.cfg (!j)
  obtain ⟨r1, r2, r3⟩ := h.dry (!j)
  have htr := c.tr
  rw [c.n2] at htr
  refine ⟨⟨htr, .inr ⟨by rw [r1]; show 0 + _ ≤ _; omega, by rw [r2]; decide, by rw [d.lo]; decide⟩⟩, ?_⟩
  have ep : (p.a (!j)).pass g = Aq.passN ((min (max g 0) 1048576).toNat + 1) (min (max g 0) 1048576).toNat (p.a (!j)) := rfl
  have hgn : (min (max g 0) 1048576).toNat ≤ 16 := by omega
  generalize (min (max g 0) 1048576).toNat = f at *
  rw [ep]
  rcases passing (f + 1) f d c.n2 with ⟨k1, k2, k3⟩ | ⟨k1, k2, n, k3, k4, k5⟩
  · rw [r2, List.nil_append] at k1
    refine ⟨(h.room ht j [] (by rw [r1] at k2; have : ([] : List (List UInt8)).length = 0 := rfl; omega) (by rw [k3, r3]; decide) (by rw [k1]; decide)).2, .inr ?_⟩
    have C := collected (p := p.setA (!j) (Aq.passN (f + 1) f (p.a (!j)))) (i := j) (by show (bset p.a (!j) _ j).Dry; rw [bset_not']; exact h.dry j)
    have e1 : (p.setA (!j) (Aq.passN (f + 1) f (p.a (!j)))).a (!j) = Aq.passN (f + 1) f (p.a (!j)) := bset_same
    have c8 := C.downs
    rw [e1, k1] at c8
    rw [c8]
    show p.downs + dn [2] = 1
    rw [h.downs]
    rfl
  · have hlen : (n.map (itI (p.a (!j)).m (p.a (!j)).od.e (p.said (!j)) true)).length ≤ 17 := by rw [List.length_map]; omega
    refine ⟨(h.room ht j [] (by rw [k5, r1, List.nil_append]; omega) (by rw [k2.od, r3]; decide) (by rw [k2.is, r2]; decide)).2, .inl ?_⟩
    have R := h.own j (S' := p.said (!j)) (s' := Aq.passN (f + 1) f (p.a (!j))) (T' := (a (!j)).T) (n := n.map fun x => It.msg x (a j).E true) (.inl rfl) k1 k2.od (c.like k2) (k2.is.trans r2) (by
      rw [k5, r1, List.nil_append, c.m, e.rcv.e, List.map_map]
      rfl) (fun u hu => by
      obtain ⟨x, hx, rfl⟩ := List.mem_map.1 hu
      refine ⟨rfl, fun y m q ee => ?_⟩
      injection ee with e1
      rw [← e1]
      exact k3 x hx) (by rw [List.length_map]; omega) (Nat.le_refl _)
    have e2 : (p.setA (!j) (Aq.passN (f + 1) f (p.a (!j)))).setSaid (!j) (p.said (!j)) = p.setA (!j) (Aq.passN (f + 1) f (p.a (!j))) := by
      unfold Pr.setSaid Pr.setA
      rw [bset_self]
    rw [e2] at R
    exact R
/-- the first that is under way is lost -/
theorem Two.loses (h : Two M W t p a) (ht : t ≤ 1000) (j : Bool) : (∀ x l, p.way j = x :: l → (p.a (!j)).Room ∧ x.length ≤ 90000 ∧ (if true = true then p.setWay j l else (p.setWay j l).setA (!j) ((p.a (!j)).input x)).Room) ∧ ∃ a', Two M W (t + 1) (p.carry j true) a' := by
  obtain ⟨hr, hc⟩ := h.roomP ht
  refine ⟨fun x l hw => ?_, ?_⟩
  · refine ⟨(h.roomA ht (!j)).1, ?_, ?_⟩
    · have wy := h.way j
      rw [hw] at wy
      cases hwj : (a j).w with
      | nil => rw [hwj] at wy; cases wy
      | cons it wl =>
        rw [hwj, List.map_cons] at wy
        injection wy with w1 w2
        rw [w1]
        cases it with
        | msg z m q =>
          have h1 := enc_len 0 ((z % M : Nat) : Int) ((m % M : Nat) : Int) q (M : Int)
          have h2 : ((p.said j).getD z []).length ≤ 50 := by
            rw [List.getD_eq_getElem?_getD]
            rcases hx : (p.said j)[z]? with _ | y
            · exact Nat.zero_le _
            · exact h.small j y (List.mem_of_getElem? hx)
          show (Aq.hd 1 ++ enc 0 ((z % M : Nat) : Int) ((m % M : Nat) : Int) q (M : Int) ++ (p.said j).getD z []).length ≤ _
          rw [List.length_append, List.length_append]
          show 2 + _ + _ ≤ _
          omega
        | ack k m q =>
          have h1 := enc_len (if k then 2 else 1) 0 ((m % M : Nat) : Int) q (M : Int)
          show (Aq.hd 1 ++ enc (if k then 2 else 1) 0 ((m % M : Nat) : Int) q (M : Int) ++ []).length ≤ _
          rw [List.length_append, List.length_append]
          show 2 + _ + 0 ≤ _
          omega
    · rw [if_pos rfl]
      refine ⟨fun i => ?_, hr.heard, hr.is, hr.downs⟩
      have hi := hr.way i
      show (bset p.way j l i).length + (p.a i).os.length ≤ _
      unfold bset
      split
      · next e => subst e; rw [hw] at hi; have hi : l.length + 1 + _ ≤ _ := hi; omega
      · exact hi
  · cases hw : p.way j with
    | nil => rw [Pr.carry_nil hw]; exact ⟨a, h.mono (Nat.le_succ _)⟩
    | cons x l =>
      rw [Pr.carry_cons hw, if_pos rfl]
      obtain ⟨a', h'⟩ := h.lose hw
      rw [collect_dry (p := p.setWay j l) h.dry]
      exact ⟨a', h'⟩
theorem Two.comes (hW : W ≤ 16) (h : Two M W t p a) (ht : t ≤ 1000) (j : Bool) : Roomy p j ∧ ∃ a', Two M W (t + 1) (p.carry j false) a' := by
  cases hw : p.way j with
  | nil =>
    rw [Pr.carry_nil hw]
    exact ⟨fun x l e => (by rw [hw] at e; cases e), a, h.mono (Nat.le_succ _)⟩
  | cons x l => exact h.come hW ht hw
/-- what the law looks at -/
theorem Two.looks (h : Two M W t p a) (i : Bool) : p.heard (!i) = (p.said i).take (p.heard (!i)).length ∧ (p.a i).ak ≤ (p.heard (!i)).length ∧ (p.a i).lo = 0 := by
  have d := h.dir i
  have e := h.heard i
  have hl : (p.heard (!i)).length = (a i).E := by
    rw [e, List.length_take]
    have := d.rcv.eb
    have := d.bt
    have := d.snd.ts
    omega
  exact ⟨by rw [hl]; exact e, by rw [d.snd.ak, hl]; exact d.fe, d.snd.lo⟩
end
end Go.Proofs.Ytgkdabllaankcaa

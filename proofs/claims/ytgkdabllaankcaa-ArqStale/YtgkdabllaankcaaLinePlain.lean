/- Two ends of a session of which the first one alone sends, over a line that loses nothing and brings what is of no effect: what is under way, and how it comes to rest. No condition. -/
import Derived.Test.YtgkdabllaankcaaSndPlain
import Derived.Test.YtgkdabllaankcaaPairFlow
namespace Go.Proofs.Ytgkdabllaankcaa
set_option linter.unusedVariables false

def keepZ (Z : List UInt8) (l : List (List UInt8)) : List (List UInt8) := l.filter fun x => decide (x ≠ Z)
theorem keepZ_none (Z : List UInt8) (l : List (List UInt8)) : keepZ Z (Z :: l) = keepZ Z l := by unfold keepZ; rw [List.filter_cons_of_neg (by simp)]
theorem keepZ_one {Z x : List UInt8} (h : x ≠ Z) (l : List (List UInt8)) : keepZ Z (x :: l) = x :: keepZ Z l := by unfold keepZ; rw [List.filter_cons_of_pos (by simpa using h)]
theorem keepZ_cat (Z : List UInt8) (l m : List (List UInt8)) : keepZ Z (l ++ m) = keepZ Z l ++ keepZ Z m := List.filter_append ..
theorem keepZ_all {Z : List UInt8} {l : List (List UInt8)} (h : ∀ x ∈ l, x ≠ Z) : keepZ Z l = l := List.filter_eq_self.2 fun x hx => by simpa using h x hx
theorem keepZ_mem {Z x : List UInt8} {l : List (List UInt8)} (h : x ∈ l) (hx : x ≠ Z) : x ∈ keepZ Z l := List.mem_filter.2 ⟨h, by simpa using hx⟩
/-- what has no effect -/
structure Void (Z : List UInt8) : Prop where
  at_ : ∀ s : Aq, s.st = 2 → s.tg = 1 → s.m = 128 → s.input Z = s
  len : Z.length ≤ 100
  notI : ∀ e L p x, itI 128 e L p x ≠ Z
  notR : ∀ k e p, itR k 128 e p ≠ Z
/-- the CRR's of the messages k to j - 1 -/
def rrs (k j : Nat) : List (List UInt8) := mapR (fun x => itR 1 128 (x + 1) false) k j
theorem itI_len (m e : Nat) (L : List (List UInt8)) (p : Bool) (x : Nat) : (itI m e L p x).length ≤ 6 + (L.getD x []).length := by
  unfold itI
  rw [List.length_append, List.length_append]
  have := enc_len 0 ((x % m : Nat) : Int) (e : Int) p (m : Int)
  show 2 + _ + _ ≤ _
  omega
theorem itR_len (k : Int) (m e : Nat) (p : Bool) : (itR k m e p).length ≤ 6 := by
  unfold itR
  rw [List.length_append, List.length_append]
  have := enc_len k 0 (e : Int) p (m : Int)
  show 2 + _ + 0 ≤ _
  omega
theorem getD_small {L : List (List UInt8)} (h : ∀ x ∈ L, x.length ≤ 50) (i : Nat) : (L.getD i []).length ≤ 50 := by
  rw [List.getD_eq_getElem?_getD]
  rcases hx : L[i]? with _ | x
  · exact Nat.zero_le _
  · exact h x (List.mem_of_getElem? hx)
/-- the next message comes to an end that has taken none itself -/
theorem line_next {s : Aq} (h : Snd [] 0 0 s) (hm : s.m = 128) (hk : s.od.k = []) (hsz : s.sz = 50) {L : List (List UInt8)} {j : Nat} (he : s.od.e = j) (hj : j < 128) (hx : (L.getD j []).length ≤ 50) :
    s.input (itI 128 0 L false j) = ({ s with od := ⟨s.od.m, s.od.W, (s.od.e + 1) % s.od.m, [], s.od.r ++ [L.getD j []]⟩, rj := false } : Aq).send 1 false := by
  have hf : s.lg.f = 0 := by rw [h.f]; exact Nat.zero_mod _
  have hin := Aq.input_enc (s := s) (t := 1) (by decide) (k := 0) (ns := ((j % 128 : Nat) : Int)) (nr := ((0 : Nat) : Int)) (p := false) (x := L.getD j []) (by rw [hm]; exact Aq.right_I (.inl rfl) (Nat.mod_lt _ (by decide)) (by decide))
  rw [hm] at hin
  have ha : s.acks ((0 : Nat) : Int) = s := by
    have := Aq.acks_none (s := s) h.ok.lg.f9
    rw [hf] at this
    exact this
  have hn := Aq.take_next h.ok hk (L.getD j []) false
  rw [he] at hn
  show s.input (Aq.hd 1 ++ enc 0 ((j % 128 : Nat) : Int) ((0 : Nat) : Int) false ((128 : Nat) : Int) ++ L.getD j []) = _
  rw [hin]
  unfold Aq.proc
  rw [if_neg (by decide), if_neg (by decide), if_neg (by decide), if_neg (by decide), if_neg (by decide)]
  unfold Aq.numbd
  rw [if_neg (by rw [h.st]; decide), if_pos ⟨h.tg.symm, h.st⟩, if_neg (fun c => by have := c.2; omega)]
  unfold Aq.exch
  rw [if_pos rfl, if_neg (by simp), ha, Nat.mod_eq_of_lt hj, hn, he]
  refine Aq.pump_none ?_
  show s.lg.n = s.lg.l.length
  rw [h.n, h.l]
  rfl
/-- j messages have come to the second end, k of them are acknowledged -/
structure Line (L : List (List UInt8)) (Z : List UInt8) (j k : Nat) (p : Pr) : Prop where
  a : Snd L k (min L.length (k + 4)) (p.a false)
  b : Snd [] 0 0 (p.a true)
  da : (p.a false).Dry
  db : (p.a true).Dry
  ma : (p.a false).m = 128
  mb : (p.a true).m = 128
  wa : (p.a false).lg.W = 4
  ea : (p.a false).od.e = 0
  ka : (p.a false).od.k = []
  eb : (p.a true).od.e = j
  kb : (p.a true).od.k = []
  szb : (p.a true).sz = 50
  kj : k ≤ j
  jt : j ≤ min L.length (k + 4)
  w0 : keepZ Z (p.way false) = itsI 128 0 L j (min L.length (k + 4))
  w1 : keepZ Z (p.way true) = rrs k j
  heard : (p.heard true).length = j
  heard0 : p.heard false = []
  downs : p.downs = 0
section
variable {L : List (List UInt8)} {Z : List UInt8} {j k : Nat} {p : Pr} {x : List UInt8} {l : List (List UInt8)}
theorem Line.up (h : Line L Z j k p) (i : Bool) : (p.a i).st = 2 ∧ (p.a i).tg = 1 ∧ (p.a i).m = 128 ∧ (p.a i).Dry := by
  cases i
  · exact ⟨h.a.st, h.a.tg, h.ma, h.da⟩
  · exact ⟨h.b.st, h.b.tg, h.mb, h.db⟩
/-- what has no effect comes -/
theorem Line.void (h : Line L Z j k p) (V : Void Z) {i : Bool} (hw : p.way i = Z :: l) : Line L Z j k (p.carry i false) ∧ (p.carry i false).way i = l ∧ (p.carry i false).way (!i) = p.way (!i) := by
  have hd := fun i => (h.up i).2.2.2
  have C := carried (hd i) hw
  obtain ⟨g1, g2, g3, -⟩ := h.up (!i)
  rw [V.at_ _ g1 g2 g3] at C
  obtain ⟨c1, c2, c3, c4, c5, c6, c7, c8⟩ := C
  rw [(hd (!i)).1, List.append_nil] at c4
  rw [(hd (!i)).2.2, List.append_nil] at c6
  rw [(hd (!i)).2.1, dn_nil, Nat.add_zero] at c8
  rw [(hd (!i)).same] at c1
  have ha : ∀ b, (p.carry i false).a b = p.a b := fun b => by cases i <;> cases b <;> assumption
  have hh : ∀ b, (p.carry i false).heard b = p.heard b := fun b => by cases i <;> cases b <;> assumption
  have hk : ∀ b, keepZ Z ((p.carry i false).way b) = keepZ Z (p.way b) := by
    have k1 : keepZ Z ((p.carry i false).way i) = keepZ Z (p.way i) := by rw [c3, hw, keepZ_none]
    have k2 : keepZ Z ((p.carry i false).way (!i)) = keepZ Z (p.way (!i)) := by rw [c4]
    intro b
    cases i <;> cases b <;> assumption
  refine ⟨?_, c3, c4⟩
  obtain ⟨h1, h2, h3, h4, h5, h6, h7, h8, h9, h10, h11, h12, h13, h14, h15, h16, h17, h18, h19⟩ := h
  refine ⟨?_, ?_, ?_, ?_, ?_, ?_, ?_, ?_, ?_, ?_, ?_, ?_, h13, h14, (hk false).trans h15, (hk true).trans h16, by rw [hh]; exact h17, by rw [hh]; exact h18, c8.trans h19⟩
  all_goals rw [ha]; assumption
/-- a message comes to the second end -/
theorem Line.msg (h : Line L Z j k p) (V : Void Z) (hL : ∀ x ∈ L, x.length ≤ 50) (hn : L.length ≤ 100) (hw : p.way false = x :: l) (hx : x ≠ Z) :
    Line L Z (j + 1) k (p.carry false false) ∧ (p.carry false false).way false = l ∧ (p.carry false false).way true = p.way true ++ [itR 1 128 (j + 1) false] ∧ x = itI 128 0 L false j ∧ j < min L.length (k + 4) := by
  have C := carried (i := false) h.da hw
  have hw0 := h.w0
  rw [hw, keepZ_one hx] at hw0
  have hlt : j < min L.length (k + 4) := by
    by_cases c : j < min L.length (k + 4)
    · exact c
    · have := h.jt
      rw [show j = min L.length (k + 4) by omega, itsI_none] at hw0
      cases hw0
  rw [itsI_first _ _ _ hlt] at hw0
  injection hw0 with hx1 hl1
  subst hx1
  have hE := line_next h.b h.mb h.kb h.szb (L := L) h.eb (by omega) (getD_small hL j)
  have hm : (p.a true).od.m = 128 := by rw [h.b.ok.odm, h.mb]
  have hok := (h.b.ok.input (b := itI 128 0 L false j) (by have := itI_len 128 0 L false j; have := getD_small hL j; omega)).dry
  have C := show Carried p (p.carry false false) false l ((p.a true).input (itI 128 0 L false j)) from C
  rw [hE] at C hok
  obtain ⟨c1, c2, c3, c4, c5, c6, c7, c8⟩ := C
  have c1 : (p.carry false false).a true = _ := c1
  have c4 : (p.carry false false).way true = p.way true ++ ((p.a true).os ++ [Aq.hd (p.a true).tg ++ enc 1 0 ((((p.a true).od.e + 1) % (p.a true).od.m : Nat) : Int) false ((p.a true).m : Int) ++ []]) := c4
  have c6 : (p.carry false false).heard true = p.heard true ++ ((p.a true).od.r ++ [L.getD j []]) := c6
  have c8 : (p.carry false false).downs = p.downs + dn (p.a true).is := c8
  rw [h.db.1, List.nil_append, h.b.tg, hm, h.mb, h.eb, Nat.mod_eq_of_lt (by omega)] at c4
  have c4 : (p.carry false false).way true = p.way true ++ [itR 1 128 (j + 1) false] := c4
  rw [h.db.2.2, List.nil_append] at c6
  rw [h.db.2.1, dn_nil, Nat.add_zero] at c8
  refine ⟨?_, c3, c4, rfl, hlt⟩
  have ha : (p.carry false false).a false = p.a false := c2
  obtain ⟨h1, h2, h3, h4, h5, h6, h7, h8, h9, h10, h11, h12, h13, h14, h15, h16, h17, h18, h19⟩ := h
  have c3 : (p.carry false false).way false = l := c3
  have c5 : (p.carry false false).heard false = p.heard false := c5
  refine ⟨by rw [ha]; exact h1, ?_, by rw [ha]; exact h3, by rw [c1]; exact Aq.dry_dry _, by rw [ha]; exact h5, by rw [c1]; exact h6, by rw [ha]; exact h7, by rw [ha]; exact h8, by rw [ha]; exact h9, ?_, by rw [c1]; rfl, by rw [c1]; exact h12, by omega, hlt, by rw [c3]; exact hl1, ?_, ?_, c5.trans h18, c8.trans h19⟩
  · rw [c1]
    exact ⟨hok, h2.st, h2.tg, h2.f, h2.n, Nat.le_refl _, h2.l, Nat.le_refl _, h2.sn, h2.ak, h2.lo⟩
  · rw [c1]
    show ((p.a true).od.e + 1) % (p.a true).od.m = j + 1
    rw [hm, h10, Nat.mod_eq_of_lt (by omega)]
  · rw [c4, keepZ_cat, h16, keepZ_all (l := [itR 1 128 (j + 1) false]) (fun y hy => by rw [List.mem_singleton.1 hy]; exact V.notR 1 (j + 1) false)]
    unfold rrs
    rw [mapR_snoc _ h13]
  · rw [c6, List.length_append, h17]
    rfl
/-- an acknowledgement comes to the first end -/
theorem Line.ack (h : Line L Z j k p) (V : Void Z) (hn : L.length ≤ 100) (hw : p.way true = x :: l) (hx : x ≠ Z) :
    Line L Z j (k + 1) (p.carry true false) ∧ (p.carry true false).way true = l ∧ (p.carry true false).way false = p.way false ++ itsI 128 0 L (min L.length (k + 4)) (min L.length (k + 1 + 4)) ∧ x = itR 1 128 (k + 1) false ∧ k < j := by
  have C := carried (i := true) h.db hw
  have hw1 := h.w1
  rw [hw, keepZ_one hx] at hw1
  unfold rrs at hw1
  have hlt : k < j := by
    by_cases c : k < j
    · exact c
    · have := h.kj
      rw [show k = j by omega, mapR_none] at hw1
      cases hw1
  rw [mapR_first _ hlt] at hw1
  injection hw1 with hx1 hl1
  subst hx1
  have hjt := h.jt
  obtain ⟨r1, r2, r3, -⟩ := h.a.rr (N := k + 1) (by omega) (by omega) false
  have hmod : (k + 1) % 128 = k + 1 := Nat.mod_eq_of_lt (by omega)
  rw [h.ma, h.wa, hmod] at r1
  rw [h.ma, hmod] at r2
  rw [h.ma, h.wa, hmod, h.da.1, List.nil_append, h.ea] at r3
  have C := show Carried p (p.carry true false) true l ((p.a false).input (itR 1 128 (k + 1) false)) from C
  obtain ⟨c1, c2, c3, c4, c5, c6, c7, c8⟩ := C
  have c1 : (p.carry true false).a false = _ := c1
  have c4 : (p.carry true false).way false = p.way false ++ _ := c4
  have c6 : (p.carry true false).heard false = p.heard false ++ _ := c6
  rw [r3] at c4
  rw [r2.od, h.da.2.2, List.append_nil] at c6
  rw [r2.is, h.da.2.1, dn_nil, Nat.add_zero] at c8
  have c3 : (p.carry true false).way true = l := c3
  have c5 : (p.carry true false).heard true = p.heard true := c5
  have ha : (p.carry true false).a true = p.a true := c2
  refine ⟨?_, c3, c4, rfl, hlt⟩
  obtain ⟨h1, h2, h3, h4, h5, h6, h7, h8, h9, h10, h11, h12, h13, h14, h15, h16, h17, h18, h19⟩ := h
  have hok := r1.ok.dry
  refine ⟨?_, by rw [ha]; exact h2, by rw [c1]; exact Aq.dry_dry _, by rw [ha]; exact h4, by rw [c1]; exact r2.m.trans h5, by rw [ha]; exact h6, by rw [c1]; exact r2.W.trans h7, ?_, ?_, by rw [ha]; exact h10, by rw [ha]; exact h11, by rw [ha]; exact h12, hlt, by omega, ?_, by rw [c3]; exact hl1, by rw [c5]; exact h17, c6.trans h18, c8.trans h19⟩
  · rw [c1]
    exact ⟨hok, r1.st, r1.tg, r1.f, r1.n, r1.ft, r1.l, r1.ts, r1.sn, r1.ak, r1.lo⟩
  · rw [c1]
    show ((p.a false).input _).od.e = 0
    rw [r2.od]; exact h8
  · rw [c1]
    show ((p.a false).input _).od.k = []
    rw [r2.od]; exact h9
  · rw [c4, keepZ_cat, h15, keepZ_all (l := itsI 128 0 L _ _) (fun y hy => by obtain ⟨i, -, -, rfl⟩ := mapR_mem hy; exact V.notI 0 L false i)]
    exact mapR_cat _ hjt (by omega)
/-- how far it is from rest -/
def LineJ (L : List (List UInt8)) (Z : List UInt8) (u : Nat) (p : Pr) : Prop := ∃ j k, Line L Z j k p ∧ u = 2 * (p.way false).length + (p.way true).length + 3 * (L.length - min L.length (k + 4)) ∧ u ≤ 1000
theorem Line.roomy (h : Line L Z j k p) (V : Void Z) (hL : ∀ x ∈ L, x.length ≤ 50) (hn : L.length ≤ 100) (h0 : (p.way false).length ≤ 1000) (h1 : (p.way true).length ≤ 1000) (i : Bool) : Roomy p i := by
  have hjt := h.jt
  have hkj := h.kj
  have rma : (p.a false).Room := by
    refine ⟨by rw [h.da.1]; decide, by rw [h.da.2.1]; decide, ?_, by rw [h.a.sn]; omega, by rw [h.a.ak]; omega, by rw [h.a.lo]; decide⟩
    unfold Od.all
    rw [h.ka, h.da.2.2]
    decide
  have rmb : (p.a true).Room := by
    refine ⟨by rw [h.db.1]; decide, by rw [h.db.2.1]; decide, ?_, by rw [h.b.sn]; decide, by rw [h.b.ak]; decide, by rw [h.b.lo]; decide⟩
    unfold Od.all
    rw [h.kb, h.db.2.2]
    decide
  refine Go.Proofs.Ytgkdabllaankcaa.roomy (h.up i).2.2.2 fun x l hw => ?_
  have hl0 : ∀ i, (p.way i).length ≤ 1000 := fun i => by cases i <;> assumption
  have hh0 : ∀ i, (p.heard i).length ≤ 100 := fun i => by
    cases i
    · rw [h.heard0]; decide
    · rw [h.heard]; omega
  have hrm : ∀ i, (p.a i).Room := fun i => by cases i <;> assumption
  have key : x.length ≤ 1000 ∧ ((p.a (!i)).input x).os.length ≤ 100 ∧ ((p.a (!i)).input x).od.r.length ≤ 1 ∧ ((p.a (!i)).input x).is.length ≤ 1 := by
    by_cases c : x = Z
    · subst c
      obtain ⟨g1, g2, g3, g4⟩ := h.up (!i)
      rw [V.at_ _ g1 g2 g3, g4.1, g4.2.1, g4.2.2]
      exact ⟨Nat.le_trans V.len (by decide), by decide, by decide, by decide⟩
    · cases i
      · have hw0 := h.w0
        rw [hw, keepZ_one c] at hw0
        have hmem : x ∈ itsI 128 0 L j (min L.length (k + 4)) := by rw [← hw0]; exact List.mem_cons_self
        have hlt : j < min L.length (k + 4) := by
          by_cases c : j < min L.length (k + 4)
          · exact c
          · rw [show j = min L.length (k + 4) by omega, itsI_none] at hw0
            cases hw0
        rw [itsI_first _ _ _ hlt] at hw0
        injection hw0 with hx1 hl1
        subst hx1
        have hE := line_next h.b h.mb h.kb h.szb (L := L) h.eb (by omega) (getD_small hL j)
        show _ ∧ ((p.a true).input _).os.length ≤ 100 ∧ ((p.a true).input _).od.r.length ≤ 1 ∧ ((p.a true).input _).is.length ≤ 1
        rw [hE]
        refine ⟨by have := itI_len 128 0 L false j; have := getD_small hL j; omega, ?_, ?_, ?_⟩
        · show ((p.a true).os ++ [_]).length ≤ _; rw [h.db.1]; show 1 ≤ 100; decide
        · show ((p.a true).od.r ++ [_]).length ≤ _; rw [h.db.2.2]; exact Nat.le_refl _
        · show (p.a true).is.length ≤ _; rw [h.db.2.1]; exact Nat.zero_le _
      · have hw1 := h.w1
        rw [hw, keepZ_one c] at hw1
        unfold rrs at hw1
        have hlt : k < j := by
          by_cases c : k < j
          · exact c
          · rw [show k = j by omega, mapR_none] at hw1
            cases hw1
        rw [mapR_first _ hlt] at hw1
        injection hw1 with hx1 hl1
        subst hx1
        obtain ⟨r1, r2, r3, -⟩ := h.a.rr (N := k + 1) (by omega) (by omega) false
        have hmod : (k + 1) % 128 = k + 1 := Nat.mod_eq_of_lt (by omega)
        rw [h.ma, hmod] at r2
        rw [h.ma, h.wa, hmod, h.da.1, List.nil_append, h.ea] at r3
        show _ ∧ ((p.a false).input _).os.length ≤ 100 ∧ ((p.a false).input _).od.r.length ≤ 1 ∧ ((p.a false).input _).is.length ≤ 1
        rw [r3, r2.od, r2.is, h.da.2.1, h.da.2.2]
        refine ⟨by have := itR_len 1 128 (k + 1) false; omega, ?_, by decide, by decide⟩
        unfold itsI
        rw [mapR_len]
        omega
  obtain ⟨k1, k2, k3, k4⟩ := key
  have q1 := hl0 i
  have q2 := hl0 (!i)
  have q3 := hh0 i
  have q4 := hh0 (!i)
  exact ⟨hrm _, by omega, by omega, by omega, by omega, by omega, by omega, by rw [h.downs]; decide⟩
theorem LineJ.flow (V : Void Z) (hL : ∀ x ∈ L, x.length ≤ 50) (hn : L.length ≤ 100) : Flow (LineJ L Z) where
  room := by
    rintro u p ⟨j, k, h, hu, hb⟩ i
    exact h.roomy V hL hn (by omega) (by omega) i
  step := by
    rintro u p ⟨j, k, h, hu, hb⟩ i hne
    cases hw : p.way i with
    | nil => exact absurd hw hne
    | cons x l =>
      by_cases c : x = Z
      · subst c
        obtain ⟨h1, h2, h3⟩ := h.void V hw
        refine ⟨_, ?_, j, k, h1, rfl, ?_⟩
        all_goals
          cases i
          · have h2 : (p.carry false false).way false = l := h2
            have h3 : (p.carry false false).way true = p.way true := h3
            rw [hw] at hu
            rw [h2, h3]
            have hu : u = 2 * (l.length + 1) + _ + _ := hu
            omega
          · have h2 : (p.carry true false).way true = l := h2
            have h3 : (p.carry true false).way false = p.way false := h3
            rw [hw] at hu
            rw [h2, h3]
            have hu : u = 2 * _ + (l.length + 1) + _ := hu
            omega
      · cases i
        · obtain ⟨h1, h2, h3, -, h4⟩ := h.msg V hL hn hw c
          rw [hw] at hu
          have hu : u = 2 * (l.length + 1) + (p.way true).length + _ := hu
          refine ⟨_, ?_, j + 1, k, h1, rfl, ?_⟩
          all_goals
            rw [h2, h3, List.length_append]
            have one : ([itR 1 128 (j + 1) false] : List (List UInt8)).length = 1 := rfl
            omega
        · obtain ⟨h1, h2, h3, -, h4⟩ := h.ack V hn hw c
          rw [hw] at hu
          have hu : u = 2 * (p.way false).length + (l.length + 1) + _ := hu
          have hlen : (itsI 128 0 L (min L.length (k + 4)) (min L.length (k + 1 + 4))).length = min L.length (k + 1 + 4) - min L.length (k + 4) := mapR_len _ _ _
          refine ⟨_, ?_, j, k + 1, h1, rfl, ?_⟩
          all_goals
            rw [h2, h3, List.length_append, hlen]
            omega
/-- at rest -/
theorem Line.rest (h : Line L Z j k p) (h0 : ∀ i, p.way i = []) : k = L.length ∧ j = L.length := by
  have h1 := h.w0
  have h2 := h.w1
  rw [h0] at h1 h2
  have h1 := congrArg List.length h1
  have h2 := congrArg List.length h2
  unfold itsI at h1
  unfold rrs at h2
  rw [mapR_len] at h1 h2
  have : (keepZ Z []).length = 0 := rfl
  have := h.kj
  have := h.jt
  omega
end
end Go.Proofs.Ytgkdabllaankcaa

/- The law ArqMeets, walked. No condition. -/
import Derived.Test.YtdidmpimlodffaaMeetPlain
import Derived.Test.YtdidmpimlodffaaIntRows
import Derived.Deep.LoopGhost
import Derived.Lib.SlBytesConst
namespace Go.Proofs.Ytdidmpimlodffaa
open Go.RowKit
set_option linter.unusedVariables false

theorem i64_and1 (x : Int) : bits .and .i64 x 1 = x % 2 := by
  rw [and_key, show ((1 : Int) % ((2 ^ 64 : Nat) : Int)).toNat = 2 ^ 1 - 1 by decide, Nat.and_two_pow_sub_one_eq_mod, IntKind.wrap_i64]
  omega
theorem Half.beside {w v v' : World} {H F : Nat → Prop} {P : Nat} {x : Option Addr} (h : Half H w v P x F) (hb : Below v.heap.size v v') : Half H w v' P x F := h.only (G := fun _ => False) (Only.of_below _ hb) (fun _ h => h.elim)
theorem Half1.beside {w v v' : World} {H : Nat → Prop} {P b0 : Nat} {c0 : Cf} {x : Option Addr} (h : Half1 H w v P b0 c0 x) (hb : Below v.heap.size v v') : Half1 H w v' P b0 c0 x := by
  obtain ⟨F, h1, h2⟩ := h
  exact ⟨F, h1.beside hb, h2.only (G := fun _ => False) (Only.of_below _ hb) (fun _ _ h => h)⟩
theorem exch_next {s : Aq} (h : s.Rest) (he : s.od.e = 0) (hk : s.od.k = []) (x : List UInt8) : s.exch 0 0 0 false x = ({ s with od := ⟨s.od.m, s.od.W, (0 + 1) % s.od.m, [], s.od.r ++ [x]⟩, rj := false } : Aq).send 1 false := by
  have ha : s.acks 0 = s := by
    have := Aq.acks_none (s := s) (by rw [h.f]; have := h.ok.lg.f9; omega)
    rw [h.f] at this
    exact this
  have hn := Aq.take_next h.ok hk x false
  rw [he] at hn
  have hn : s.take 0 x false = _ := hn
  unfold Aq.exch
  rw [if_pos rfl, if_neg (by simp), ha, hn]
  exact Aq.pump_none (by show s.lg.n = s.lg.l.length; rw [h.n, h.l]; rfl)
theorem proc_next {s : Aq} (h : s.Rest) (htg : s.tg = 1) {x : List UInt8} (hx : x.length ≤ s.sz) : s.input (Aq.hd 1 ++ enc 0 ((0 : Nat) : Int) ((0 : Nat) : Int) false s.m ++ x) = s.exch 0 0 0 false x := by
  rw [Aq.input_enc (s := s) (by decide) (Aq.right_I h.ok.m2 (by have := h.ok.lg.m8; rw [h.ok.lgm] at this; omega) (by have := h.ok.lg.m8; rw [h.ok.lgm] at this; omega))]
  unfold Aq.proc
  rw [if_neg (by decide), if_neg (by decide), if_neg (by decide), if_neg (by decide), if_neg (by decide)]
  unfold Aq.numbd
  rw [if_neg (by rw [h.st]; decide), if_pos ⟨htg.symm, h.st⟩, if_neg (fun e => by have := e.2; omega)]
  rfl
/-- the last message comes over -/
theorem meet_fin (c : Cf) (s1 : Aq) (z : List UInt8) (h_os : s1.os = [z]) (h_is : s1.is = []) (h_r : s1.od.r = []) (h_st : s1.st = 2) (E : Aq) (hE : (upS c).input z = E) (e_is : E.is = []) (e_r : E.od.r = [[120]]) (e_st : E.st = 2) (e_os : E.os.length = 1) (hz : z.length ≤ 90000) :
    ((upP c).setA false s1).Room ∧ (∀ x l, ((upP c).setA false s1).collect.way false = x :: l → (((upP c).setA false s1).collect.a true).Room ∧ x.length ≤ 90000 ∧ (if false = true then ((upP c).setA false s1).collect.setWay false l else (((upP c).setA false s1).collect.setWay false l).setA true ((((upP c).setA false s1).collect.a true).input x)).Room) ∧
      ((((upP c).setA false s1).collect.carry false false).a false).st = 2 ∧ ((((upP c).setA false s1).collect.carry false false).a true).st = 2 ∧ ((((upP c).setA false s1).collect.carry false false).heard true).length = 1 ∧ (((upP c).setA false s1).collect.carry false false).downs = 0 := by
  have w0 : ((upP c).setA false s1).collect.way false = [z] := by
    show [] ++ s1.os = _
    rw [h_os]
    rfl
  refine ⟨⟨fun i => ?_, fun i => ?_, fun i => ?_, ?_⟩, ?_, ?_⟩
  · cases i
    · show 0 + s1.os.length ≤ _; rw [h_os]; exact (by decide : 1 ≤ 1000000)
    · exact Nat.zero_le _
  · cases i
    · show 0 + s1.od.r.length ≤ _; rw [h_r]; exact Nat.zero_le _
    · exact Nat.zero_le _
  · cases i
    · show s1.is.length ≤ _; rw [h_is]; exact Nat.zero_le _
    · exact Nat.zero_le _
  · show 0 + s1.is.length + 0 ≤ _; rw [h_is]; exact Nat.zero_le _
  · intro x l h
    rw [w0] at h
    injection h with h1 h2
    subst h1 h2
    refine ⟨upS_room c, hz, ?_⟩
    rw [if_neg (by decide)]
    rw [show (((upP c).setA false s1).collect.a true).input z = E from hE]
    refine ⟨fun i => ?_, fun i => ?_, fun i => ?_, ?_⟩
    · cases i
      · exact Nat.zero_le _
      · show 0 + E.os.length ≤ _; rw [e_os]; decide
    · cases i
      · show (([] : List (List UInt8)) ++ s1.od.r).length + 0 ≤ _; rw [h_r]; exact Nat.zero_le _
      · show 0 + E.od.r.length ≤ _; rw [e_r]; exact (by decide : 1 ≤ 1000000)
    · cases i
      · exact Nat.zero_le _
      · show E.is.length ≤ _; rw [e_is]; exact Nat.zero_le _
    · show 0 + dn s1.is + dn [] + 0 + E.is.length ≤ _; rw [h_is, e_is]; exact Nat.zero_le _
  · have hc : ((upP c).setA false s1).collect.carry false false = ((((upP c).setA false s1).collect.setWay false []).setA true E).collect := by
      rw [Pr.carry_cons w0, if_neg (by decide)]
      rw [show (((upP c).setA false s1).collect.a (!false)).input z = E from hE]
      rfl
    rw [hc]
    refine ⟨h_st, e_st, ?_, ?_⟩
    · show (([] : List (List UInt8)) ++ [] ++ E.od.r).length = 1
      rw [e_r]
      rfl
    · show 0 + dn s1.is + dn [] + dn [] + dn E.is = 0
      rw [h_is, e_is]
      rfl
theorem meet_shape (m : Int) (hm : m = 128 ∨ m = 32768) : (upS (shapeC m 4 4)).lg.W = 4 ∧ (upS (shapeC m 4 4)).lg.Q = 4 ∧ (upS (shapeC m 4 4)).sz = 50 := by rcases hm with rfl | rfl <;> exact ⟨rfl, rfl, rfl⟩
theorem meet_all (m : Int) (hm : m = 128 ∨ m = 32768) : (((upP (shapeC m 4 4)).a false).give [120] = sentS (upS (shapeC m 4 4)) [[120]] ∧ ((upP (shapeC m 4 4)).a false).giveE [120] = 0) ∧ ((upP (shapeC m 4 4)).setA false (sentS (upS (shapeC m 4 4)) [[120]])).Room ∧ (∀ x l, ((upP (shapeC m 4 4)).setA false (sentS (upS (shapeC m 4 4)) [[120]])).collect.way false = x :: l → (((upP (shapeC m 4 4)).setA false (sentS (upS (shapeC m 4 4)) [[120]])).collect.a true).Room ∧ x.length ≤ 90000 ∧ (if false = true then ((upP (shapeC m 4 4)).setA false (sentS (upS (shapeC m 4 4)) [[120]])).collect.setWay false l else (((upP (shapeC m 4 4)).setA false (sentS (upS (shapeC m 4 4)) [[120]])).collect.setWay false l).setA true ((((upP (shapeC m 4 4)).setA false (sentS (upS (shapeC m 4 4)) [[120]])).collect.a true).input x)).Room) ∧
      ((((upP (shapeC m 4 4)).setA false (sentS (upS (shapeC m 4 4)) [[120]])).collect.carry false false).a false).st = 2 ∧ ((((upP (shapeC m 4 4)).setA false (sentS (upS (shapeC m 4 4)) [[120]])).collect.carry false false).a true).st = 2 ∧ ((((upP (shapeC m 4 4)).setA false (sentS (upS (shapeC m 4 4)) [[120]])).collect.carry false false).heard true).length = 1 ∧ (((upP (shapeC m 4 4)).setA false (sentS (upS (shapeC m 4 4)) [[120]])).collect.carry false false).downs = 0 := by
  obtain ⟨e1, e2, e3⟩ := meet_shape m hm
  have hR := upS_rest (shapeC m 4 4)
  have hg := sentS_give hR (by rw [e2]; decide) (L := []) (by rw [e1, e2]; decide) (x := [120]) (by rw [e3]; decide)
  rw [sentS_nil hR] at hg
  refine ⟨hg, ?_⟩
  have hel := enc_len 0 0 0 false ((upS (shapeC m 4 4)).m : Int)
  have hE := exch_next hR rfl rfl [120]
  refine meet_fin (shapeC m 4 4) (sentS (upS (shapeC m 4 4)) [[120]]) (Aq.hd 1 ++ enc 0 ((0 : Nat) : Int) ((0 : Nat) : Int) false (upS (shapeC m 4 4)).m ++ [120]) ?_ rfl rfl rfl ((upS (shapeC m 4 4)).exch 0 0 0 false [120]) (proc_next hR rfl (by rw [e3]; decide)) (by rw [hE]; rfl) (by rw [hE]; rfl) (by rw [hE]; rfl) (by rw [hE]; rfl) ?_
  · show outsFrom _ _ _ 0 (([[120]] : List (List UInt8)).take (upS (shapeC m 4 4)).lg.W) = _
    rw [e1]
    rfl
  · rw [List.length_append, List.length_append]
    show 2 + (enc 0 0 0 false _).length + 1 ≤ 90000
    omega
section
variable {w v v' : World} {H : Nat → Prop}
set_option maxRecDepth 20000 in
set_option maxHeartbeats 4000000 in
theorem ArqMeets_main (A : Option Addr) (cap : Nat) (l : List Int) (w : World) (hr : RdI w A l) (hl : l.length ≤ 60) :
    Calls Try.prog 8 #[.slice A l.length cap, .bool false] w fun e w' => e = .returned (.bool true) ∧ Below w.heap.size w w' := by
  have i1 : decide ((60 : Int) < (l.length : Int)) = false := decide_eq_false (by omega)
  have j1 : ¬ (60 : Int) < (l.length : Int) := by omega
  obtain ⟨⟨ma1, ma2⟩, ma3, ma4, ma5, ma6, ma7, ma8⟩ := meet_all 128 (.inl rfl)
  have NC := fun v => aqNew_calls (shapeC 128 4 4) v
  have SC := fun v => shape_calls 128 4 4 v
  have HCF := Lib.hid (And.intro (mt_begin (shapeC 128 4 4)) (And.intro (mt_end (shapeC 128 4 4)) (And.intro (mt_step (shapeC 128 4 4)) (And.intro (mt_room (shapeC 128 4 4)) (mt_room0 (shapeC 128 4 4))))))
  have HST := Lib.hid (show ((upS (shapeC 128 4 4)).os.length + ((upS (shapeC 128 4 4)).lg.W - (upS (shapeC 128 4 4)).lg.n) ≤ 1000000) ∧ (upS (shapeC 128 4 4)).sn ≤ 1000000000000 from ⟨by rw [(meet_shape 128 (.inl rfl)).1]; exact (by decide : 0 + (4 - 0) ≤ 1000000), Nat.zero_le _⟩)
  have HMA := Lib.hid (And.intro ma1 (And.intro ma3 ma4))
  have HM2 := Lib.hid (And.intro ma2 (And.intro ma5 (And.intro ma6 (And.intro ma7 ma8))))
  clear ma1 ma2 ma3 ma4 ma5 ma6 ma7 ma8
  generalize hL : l.length = L at *
  have HL := Lib.hid hL
  have HR := Lib.hid hr
  clear hL hr
  go_enter Try.func8, Try.ntmps8
  go_wp2_with fail
  refine (alive_calls w).mono ?_
  rintro e V ⟨rfl, hb⟩
  have HA0 := Lib.hid ((Half.alloc (H := fun _ => False) hb (fun _ h => h.elim)).drewN 1)
  clear hb
  unfold pr0 at HA0
  generalize shapeC 128 4 4 = c at *
  go_wp2_with fail
  go_region_law (first
    | (go_simp; go_at_call 16; refine (SC _).mono ?_; rintro e v1 ⟨rfl, be1⟩; have hA1 := Lib.hid (HA0.out.beside be1); clear be1)
    | (go_simp; go_at_call 28; refine (NC _).mono ?_; rintro e v2 hm; obtain ⟨b0, rfl, h1⟩ := Half.made hA1.out hm; obtain ⟨k0, z0, h2⟩ := h1.store; have FI := Lib.hid h2; clear h1 h2 hm hA1))
  all_goals
    obtain ⟨V3, hV3⟩ : ∃ V3, v2.setCell ⟨V.heap.size, 0, none⟩ (.pointer (some ⟨b0, 0, none⟩)) = V3 := ⟨_, rfl⟩
    rw [hV3] at FI ⊢
    clear hV3 k0 z0 HA0
    go_wp2_with fail
    go_region_law (first
      | (go_simp; go_at_call 16; refine (SC _).mono ?_; rintro e v1 ⟨rfl, be1⟩; have hA1 := Lib.hid ((FI.out.drewN 1).beside be1); clear be1)
      | (go_simp; go_at_call 28; refine (NC _).mono ?_; rintro e v4 hm; obtain ⟨b1, rfl, h3⟩ := Half1.made hA1.out hm; obtain ⟨k0, z0, h4⟩ := h3.store; have FJ := Lib.hid h4; clear h3 h4 hm hA1))
    all_goals
      obtain ⟨V5, hV5⟩ : ∃ V5, v4.setCell ⟨V.heap.size, 1, none⟩ (.pointer (some ⟨b1, 0, none⟩)) = V5 := ⟨_, rfl⟩
      obtain ⟨b, hb⟩ : ∃ b : Bool → Nat, (fun i => if i then b1 else b0) = b := ⟨_, rfl⟩
      rw [hV5] at FJ ⊢
      have h5 := FJ.out
      simp only [hb] at h5
      clear hV5 hb FJ FI k0 z0 NC SC
      generalize V.heap.size = P at *
      have p0 : V5.cell? ⟨P, 0, none⟩ = some (.pointer (some ⟨b false, 0, none⟩)) := h5.ptr false
      have CN := h5.act false (r := .returned (.int .i64 (Aq.newC c).connectE)) (s' := (Aq.newC c).connect) (fun H' oA _ => AqOne.connect (s := Aq.newC c) oA (Nat.zero_le _))
      clear h5
      go_wp2_with fail
      refine CN.mono ?_
      rintro e v6 ⟨rfl, h6, -, -⟩
      have p1 : v6.cell? ⟨P, 1, none⟩ = some (.pointer (some ⟨b true, 0, none⟩)) := h6.ptr true
      have CN2 := h6.act true (r := .returned (.int .i64 (Aq.newC c).connectE)) (s' := (Aq.newC c).connect) (fun H' oA _ => AqOne.connect (s := Aq.newC c) oA (Nat.zero_le _))
      clear CN h6 p0
      go_wp2_with fail
      refine CN2.mono ?_
      rintro e v7 ⟨rfl, h7, -, -⟩
      have CC := collect_calls h7 HCF.out.2.2.2.2
      rw [HCF.out.1] at CC
      clear CN2 h7 p1
      go_wp2_with fail
      refine CC.mono ?_
      rintro e v8 ⟨rfl, h8, -⟩
      have H0 : Aside (PrOne (fun _ => False) w v8 P b (mt c .s00)) := h8
      clear CC h8
      go_wp2_with fail
      go_loopg [8] L (fun kx s8 wr => ∃ (k : Nat) (s : Mt), s8 = .int .i64 (k : Int) ∧ k ≤ L ∧ L - k ≤ kx ∧ Aside (PrOne (fun _ => False) w wr P b (mt c s)))
      case atStart => exact ⟨0, .s00, rfl, by omega, by omega, H0⟩
      case round =>
        clear H0
        obtain ⟨k, s, rfl, hk, hkx, HO⟩ := hrel
        by_cases hkL : k < L
        · have g0 : (k : Int) < (L : Int) := by omega
          have g1 : (0 : Int) ≤ (k : Int) := by omega
          have h := HO.out
          obtain ⟨g, off, rfl, -, kc⟩ := (HR.out.below h.bel).at_ (k := k) (by rw [HL.out]; exact hkL)
          have hand := i64_and1 (l.getD k 0)
          generalize l.getD k 0 = y at *
          rcases (show y % 2 = 0 ∨ y % 2 = 1 by omega) with hy | hy
          · rw [hy] at hand
            have CA := carry_zero h false (HCF.out.2.2.2.1 s false)
            rw [HCF.out.2.2.1 s false] at CA
            clear h HO
            go_wp2_with fail
            refine CA.mono ?_
            rintro e w1 ⟨rfl, h1, -⟩
            have HS : Aside (PrOne (fun _ => False) w w1 P b (mt c (s.nx false))) := h1
            clear CA h1
            go_wp2
            go_roundg (L - (k + 1))
            case measure => omega
            case rel => exact ⟨k + 1, s.nx false, by go_num, by omega, Nat.le_refl _, HS⟩
          · rw [hy] at hand
            have CA := carry_one h false (HCF.out.2.2.2.1 s true)
            rw [HCF.out.2.2.1 s true] at CA
            clear h HO
            go_wp2_with fail
            refine CA.mono ?_
            rintro e w1 ⟨rfl, h1, -⟩
            have HS : Aside (PrOne (fun _ => False) w w1 P b (mt c (s.nx true))) := h1
            clear CA h1
            go_wp2
            go_roundg (L - (k + 1))
            case measure => omega
            case rel => exact ⟨k + 1, s.nx true, by go_num, by omega, Nat.le_refl _, HS⟩
        · have hkE : k = L := by omega
          subst hkE
          have g0 : ¬ (k : Int) < (k : Int) := by omega
          have H1 : Aside (PrOne (fun _ => False) w wr P b (mt c (Mt.it 0 s))) := HO
          clear HO HR HL
          go_wp2_with fail
          go_loopg [9] 20 (fun kx s9 wr => ∃ (k : Nat), s9 = .int .i64 (k : Int) ∧ k ≤ 20 ∧ 20 - k ≤ kx ∧ Aside (PrOne (fun _ => False) w wr P b (mt c (Mt.it k s))))
          case atStart => exact ⟨0, rfl, by omega, by omega, H1⟩
          case round =>
            clear H1
            obtain ⟨k, rfl, hk, hkx, HO⟩ := hrel
            by_cases hk20 : k < 20
            · have g0 : (k : Int) < 20 := by omega
              have CA := carry_zero HO.out false (HCF.out.2.2.2.1 (Mt.it k s) false)
              rw [HCF.out.2.2.1 (Mt.it k s) false] at CA
              clear HO
              go_wp2_with fail
              refine CA.mono ?_
              rintro e w1 ⟨rfl, h1, -⟩
              have CB := carry_one h1 false (HCF.out.2.2.2.1 ((Mt.it k s).nx false) true)
              rw [HCF.out.2.2.1 ((Mt.it k s).nx false) true] at CB
              clear CA h1
              go_wp2_with fail
              refine CB.mono ?_
              rintro e w2 ⟨rfl, h2, -⟩
              have HS : Aside (PrOne (fun _ => False) w w2 P b (mt c (Mt.it (k + 1) s))) := h2
              clear CB h2
              go_wp2
              go_roundg (20 - (k + 1))
              case measure => omega
              case rel => exact ⟨k + 1, by go_num, by omega, Nat.le_refl _, HS⟩
            · have hkE : k = 20 := by omega
              subst hkE
              have g0 : ¬ ((20 : Nat) : Int) < 20 := by omega
              have h := HO.out
              rw [Mt.it_end, HCF.out.2.1] at h
              have k0 : wr.cell? ⟨P, 0, none⟩ = some (.pointer (some ⟨b false, 0, none⟩)) := h.ptr false
              obtain ⟨W8, hW8⟩ : ∃ W8, laidM wr [120] = W8 := ⟨_, rfl⟩
              have qz : (convert 39 39 (.slice (some ⟨wr.heap.size, 0, none⟩) 1 1)).run Try.prog (wr.alloc (.cells #[.int .u8 120] 5)) = .ok (.slice (some ⟨wr.heap.size, 0, none⟩) 1 1) W8 := by
                rw [← hW8]
                exact Lib.run_convert_bytes_const (P := Try.prog) wr 39 5 #[.int .u8 120] 1 1 Try.underlying39 Try.underlying5
              have be8 : Below wr.heap.size wr W8 := by rw [← hW8]; exact laidM_below _ _
              have rd8 : Rd W8 (some ⟨wr.heap.size, 0, none⟩) [120] := by rw [← hW8]; exact laidM_rd wr [120]
              have SN := (h.beside be8).send false HST.out.1 HST.out.2 (some ⟨wr.heap.size, 0, none⟩) 1 [120] rd8 (by decide)
              rw [HMA.out.1, HM2.out.1] at SN
              clear h HO hW8 be8 rd8
              go_wp2_with fail
              refine SN.mono ?_
              rintro e w3 ⟨rfl, h3, -, -⟩
              have CC := collect_calls h3 HMA.out.2.1
              clear SN h3 qz k0
              go_wp2_with fail
              refine CC.mono ?_
              rintro e w4 ⟨rfl, h4, -⟩
              have CA := carry_zero h4 false HMA.out.2.2
              clear CC h4
              go_wp2_with fail
              refine CA.mono ?_
              rintro e w5 ⟨rfl, h5, -⟩
              obtain ⟨-, q1, q2, q3, q4⟩ := HM2.out
              have S0 := h5.state false
              have S1 := h5.state true
              rw [q1] at S0
              rw [q2] at S1
              have k5 : w5.cell? ⟨P, 0, none⟩ = some (.pointer (some ⟨b false, 0, none⟩)) := h5.ptr false
              have k6 : w5.cell? ⟨P, 1, none⟩ = some (.pointer (some ⟨b true, 0, none⟩)) := h5.ptr true
              obtain ⟨B, d, k7⟩ := h5.cHeard true
              rw [q3] at k7
              have k7 : w5.cell? ⟨P, 5, none⟩ = some (.slice B 1 d) := k7
              have k8 : w5.cell? ⟨P, 8, none⟩ = some (.int .i64 0) := by
                have := h5.cDowns
                rw [q4] at this
                exact this
              have FI := Lib.hid h5.bel
              have NM := fun v => num_calls 0 v
              clear CA h5 q1 q2 q3 q4 HMA HM2 HCF HST
              go_wp2_with fail
              refine S0.mono ?_
              rintro e w6 ⟨rfl, hv⟩
              obtain rfl := hv.symm
              go_wp2_with fail
              refine S1.mono ?_
              rintro e w6 ⟨rfl, hv⟩
              obtain rfl := hv.symm
              go_wp2_with fail
              refine (NM _).mono ?_
              rintro e w6 ⟨rfl, hv⟩
              obtain rfl := hv.symm
              go_wp2
              go_ret
              exact ⟨rfl, FI.out⟩
set_option maxRecDepth 20000 in
set_option maxHeartbeats 4000000 in
theorem ArqMeets_wide (A : Option Addr) (cap : Nat) (l : List Int) (w : World) (hr : RdI w A l) (hl : l.length ≤ 60) :
    Calls Try.prog 8 #[.slice A l.length cap, .bool true] w fun e w' => e = .returned (.bool true) ∧ Below w.heap.size w w' := by
  have i1 : decide ((60 : Int) < (l.length : Int)) = false := decide_eq_false (by omega)
  have j1 : ¬ (60 : Int) < (l.length : Int) := by omega
  obtain ⟨⟨ma1, ma2⟩, ma3, ma4, ma5, ma6, ma7, ma8⟩ := meet_all 32768 (.inr rfl)
  have NC := fun v => aqNew_calls (shapeC 32768 4 4) v
  have SC := fun v => shape_calls 32768 4 4 v
  have HCF := Lib.hid (And.intro (mt_begin (shapeC 32768 4 4)) (And.intro (mt_end (shapeC 32768 4 4)) (And.intro (mt_step (shapeC 32768 4 4)) (And.intro (mt_room (shapeC 32768 4 4)) (mt_room0 (shapeC 32768 4 4))))))
  have HST := Lib.hid (show ((upS (shapeC 32768 4 4)).os.length + ((upS (shapeC 32768 4 4)).lg.W - (upS (shapeC 32768 4 4)).lg.n) ≤ 1000000) ∧ (upS (shapeC 32768 4 4)).sn ≤ 1000000000000 from ⟨by rw [(meet_shape 32768 (.inr rfl)).1]; exact (by decide : 0 + (4 - 0) ≤ 1000000), Nat.zero_le _⟩)
  have HMA := Lib.hid (And.intro ma1 (And.intro ma3 ma4))
  have HM2 := Lib.hid (And.intro ma2 (And.intro ma5 (And.intro ma6 (And.intro ma7 ma8))))
  clear ma1 ma2 ma3 ma4 ma5 ma6 ma7 ma8
  generalize hL : l.length = L at *
  have HL := Lib.hid hL
  have HR := Lib.hid hr
  clear hL hr
  go_enter Try.func8, Try.ntmps8
  go_wp2_with fail
  refine (alive_calls w).mono ?_
  rintro e V ⟨rfl, hb⟩
  have HA0 := Lib.hid ((Half.alloc (H := fun _ => False) hb (fun _ h => h.elim)).drewN 1)
  clear hb
  unfold pr0 at HA0
  generalize shapeC 32768 4 4 = c at *
  go_wp2_with fail
  go_region_law (first
    | (go_simp; go_at_call 16; refine (SC _).mono ?_; rintro e v1 ⟨rfl, be1⟩; have hA1 := Lib.hid (HA0.out.beside be1); clear be1)
    | (go_simp; go_at_call 28; refine (NC _).mono ?_; rintro e v2 hm; obtain ⟨b0, rfl, h1⟩ := Half.made hA1.out hm; obtain ⟨k0, z0, h2⟩ := h1.store; have FI := Lib.hid h2; clear h1 h2 hm hA1))
  all_goals
    obtain ⟨V3, hV3⟩ : ∃ V3, v2.setCell ⟨V.heap.size, 0, none⟩ (.pointer (some ⟨b0, 0, none⟩)) = V3 := ⟨_, rfl⟩
    rw [hV3] at FI ⊢
    clear hV3 k0 z0 HA0
    go_wp2_with fail
    go_region_law (first
      | (go_simp; go_at_call 16; refine (SC _).mono ?_; rintro e v1 ⟨rfl, be1⟩; have hA1 := Lib.hid ((FI.out.drewN 1).beside be1); clear be1)
      | (go_simp; go_at_call 28; refine (NC _).mono ?_; rintro e v4 hm; obtain ⟨b1, rfl, h3⟩ := Half1.made hA1.out hm; obtain ⟨k0, z0, h4⟩ := h3.store; have FJ := Lib.hid h4; clear h3 h4 hm hA1))
    all_goals
      obtain ⟨V5, hV5⟩ : ∃ V5, v4.setCell ⟨V.heap.size, 1, none⟩ (.pointer (some ⟨b1, 0, none⟩)) = V5 := ⟨_, rfl⟩
      obtain ⟨b, hb⟩ : ∃ b : Bool → Nat, (fun i => if i then b1 else b0) = b := ⟨_, rfl⟩
      rw [hV5] at FJ ⊢
      have h5 := FJ.out
      simp only [hb] at h5
      clear hV5 hb FJ FI k0 z0 NC SC
      generalize V.heap.size = P at *
      have p0 : V5.cell? ⟨P, 0, none⟩ = some (.pointer (some ⟨b false, 0, none⟩)) := h5.ptr false
      have CN := h5.act false (r := .returned (.int .i64 (Aq.newC c).connectE)) (s' := (Aq.newC c).connect) (fun H' oA _ => AqOne.connect (s := Aq.newC c) oA (Nat.zero_le _))
      clear h5
      go_wp2_with fail
      refine CN.mono ?_
      rintro e v6 ⟨rfl, h6, -, -⟩
      have p1 : v6.cell? ⟨P, 1, none⟩ = some (.pointer (some ⟨b true, 0, none⟩)) := h6.ptr true
      have CN2 := h6.act true (r := .returned (.int .i64 (Aq.newC c).connectE)) (s' := (Aq.newC c).connect) (fun H' oA _ => AqOne.connect (s := Aq.newC c) oA (Nat.zero_le _))
      clear CN h6 p0
      go_wp2_with fail
      refine CN2.mono ?_
      rintro e v7 ⟨rfl, h7, -, -⟩
      have CC := collect_calls h7 HCF.out.2.2.2.2
      rw [HCF.out.1] at CC
      clear CN2 h7 p1
      go_wp2_with fail
      refine CC.mono ?_
      rintro e v8 ⟨rfl, h8, -⟩
      have H0 : Aside (PrOne (fun _ => False) w v8 P b (mt c .s00)) := h8
      clear CC h8
      go_wp2_with fail
      go_loopg [8] L (fun kx s8 wr => ∃ (k : Nat) (s : Mt), s8 = .int .i64 (k : Int) ∧ k ≤ L ∧ L - k ≤ kx ∧ Aside (PrOne (fun _ => False) w wr P b (mt c s)))
      case atStart => exact ⟨0, .s00, rfl, by omega, by omega, H0⟩
      case round =>
        clear H0
        obtain ⟨k, s, rfl, hk, hkx, HO⟩ := hrel
        by_cases hkL : k < L
        · have g0 : (k : Int) < (L : Int) := by omega
          have g1 : (0 : Int) ≤ (k : Int) := by omega
          have h := HO.out
          obtain ⟨g, off, rfl, -, kc⟩ := (HR.out.below h.bel).at_ (k := k) (by rw [HL.out]; exact hkL)
          have hand := i64_and1 (l.getD k 0)
          generalize l.getD k 0 = y at *
          rcases (show y % 2 = 0 ∨ y % 2 = 1 by omega) with hy | hy
          · rw [hy] at hand
            have CA := carry_zero h false (HCF.out.2.2.2.1 s false)
            rw [HCF.out.2.2.1 s false] at CA
            clear h HO
            go_wp2_with fail
            refine CA.mono ?_
            rintro e w1 ⟨rfl, h1, -⟩
            have HS : Aside (PrOne (fun _ => False) w w1 P b (mt c (s.nx false))) := h1
            clear CA h1
            go_wp2
            go_roundg (L - (k + 1))
            case measure => omega
            case rel => exact ⟨k + 1, s.nx false, by go_num, by omega, Nat.le_refl _, HS⟩
          · rw [hy] at hand
            have CA := carry_one h false (HCF.out.2.2.2.1 s true)
            rw [HCF.out.2.2.1 s true] at CA
            clear h HO
            go_wp2_with fail
            refine CA.mono ?_
            rintro e w1 ⟨rfl, h1, -⟩
            have HS : Aside (PrOne (fun _ => False) w w1 P b (mt c (s.nx true))) := h1
            clear CA h1
            go_wp2
            go_roundg (L - (k + 1))
            case measure => omega
            case rel => exact ⟨k + 1, s.nx true, by go_num, by omega, Nat.le_refl _, HS⟩
        · have hkE : k = L := by omega
          subst hkE
          have g0 : ¬ (k : Int) < (k : Int) := by omega
          have H1 : Aside (PrOne (fun _ => False) w wr P b (mt c (Mt.it 0 s))) := HO
          clear HO HR HL
          go_wp2_with fail
          go_loopg [9] 20 (fun kx s9 wr => ∃ (k : Nat), s9 = .int .i64 (k : Int) ∧ k ≤ 20 ∧ 20 - k ≤ kx ∧ Aside (PrOne (fun _ => False) w wr P b (mt c (Mt.it k s))))
          case atStart => exact ⟨0, rfl, by omega, by omega, H1⟩
          case round =>
            clear H1
            obtain ⟨k, rfl, hk, hkx, HO⟩ := hrel
            by_cases hk20 : k < 20
            · have g0 : (k : Int) < 20 := by omega
              have CA := carry_zero HO.out false (HCF.out.2.2.2.1 (Mt.it k s) false)
              rw [HCF.out.2.2.1 (Mt.it k s) false] at CA
              clear HO
              go_wp2_with fail
              refine CA.mono ?_
              rintro e w1 ⟨rfl, h1, -⟩
              have CB := carry_one h1 false (HCF.out.2.2.2.1 ((Mt.it k s).nx false) true)
              rw [HCF.out.2.2.1 ((Mt.it k s).nx false) true] at CB
              clear CA h1
              go_wp2_with fail
              refine CB.mono ?_
              rintro e w2 ⟨rfl, h2, -⟩
              have HS : Aside (PrOne (fun _ => False) w w2 P b (mt c (Mt.it (k + 1) s))) := h2
              clear CB h2
              go_wp2
              go_roundg (20 - (k + 1))
              case measure => omega
              case rel => exact ⟨k + 1, by go_num, by omega, Nat.le_refl _, HS⟩
            · have hkE : k = 20 := by omega
              subst hkE
              have g0 : ¬ ((20 : Nat) : Int) < 20 := by omega
              have h := HO.out
              rw [Mt.it_end, HCF.out.2.1] at h
              have k0 : wr.cell? ⟨P, 0, none⟩ = some (.pointer (some ⟨b false, 0, none⟩)) := h.ptr false
              obtain ⟨W8, hW8⟩ : ∃ W8, laidM wr [120] = W8 := ⟨_, rfl⟩
              have qz : (convert 39 39 (.slice (some ⟨wr.heap.size, 0, none⟩) 1 1)).run Try.prog (wr.alloc (.cells #[.int .u8 120] 5)) = .ok (.slice (some ⟨wr.heap.size, 0, none⟩) 1 1) W8 := by
                rw [← hW8]
                exact Lib.run_convert_bytes_const (P := Try.prog) wr 39 5 #[.int .u8 120] 1 1 Try.underlying39 Try.underlying5
              have be8 : Below wr.heap.size wr W8 := by rw [← hW8]; exact laidM_below _ _
              have rd8 : Rd W8 (some ⟨wr.heap.size, 0, none⟩) [120] := by rw [← hW8]; exact laidM_rd wr [120]
              have SN := (h.beside be8).send false HST.out.1 HST.out.2 (some ⟨wr.heap.size, 0, none⟩) 1 [120] rd8 (by decide)
              rw [HMA.out.1, HM2.out.1] at SN
              clear h HO hW8 be8 rd8
              go_wp2_with fail
              refine SN.mono ?_
              rintro e w3 ⟨rfl, h3, -, -⟩
              have CC := collect_calls h3 HMA.out.2.1
              clear SN h3 qz k0
              go_wp2_with fail
              refine CC.mono ?_
              rintro e w4 ⟨rfl, h4, -⟩
              have CA := carry_zero h4 false HMA.out.2.2
              clear CC h4
              go_wp2_with fail
              refine CA.mono ?_
              rintro e w5 ⟨rfl, h5, -⟩
              obtain ⟨-, q1, q2, q3, q4⟩ := HM2.out
              have S0 := h5.state false
              have S1 := h5.state true
              rw [q1] at S0
              rw [q2] at S1
              have k5 : w5.cell? ⟨P, 0, none⟩ = some (.pointer (some ⟨b false, 0, none⟩)) := h5.ptr false
              have k6 : w5.cell? ⟨P, 1, none⟩ = some (.pointer (some ⟨b true, 0, none⟩)) := h5.ptr true
              obtain ⟨B, d, k7⟩ := h5.cHeard true
              rw [q3] at k7
              have k7 : w5.cell? ⟨P, 5, none⟩ = some (.slice B 1 d) := k7
              have k8 : w5.cell? ⟨P, 8, none⟩ = some (.int .i64 0) := by
                have := h5.cDowns
                rw [q4] at this
                exact this
              have FI := Lib.hid h5.bel
              have NM := fun v => num_calls 0 v
              clear CA h5 q1 q2 q3 q4 HMA HM2 HCF HST
              go_wp2_with fail
              refine S0.mono ?_
              rintro e w6 ⟨rfl, hv⟩
              obtain rfl := hv.symm
              go_wp2_with fail
              refine S1.mono ?_
              rintro e w6 ⟨rfl, hv⟩
              obtain rfl := hv.symm
              go_wp2_with fail
              refine (NM _).mono ?_
              rintro e w6 ⟨rfl, hv⟩
              obtain rfl := hv.symm
              go_wp2
              go_ret
              exact ⟨rfl, FI.out⟩
set_option maxRecDepth 20000 in
set_option maxHeartbeats 2000000 in
/-- outside the bounds -/
theorem ArqMeets_far (A : Option Addr) (len cap : Nat) (a1 : Bool) (w : World) (h : 60 < len) (h2 : len ≤ 9223372036854775807) :
    Calls Try.prog 8 #[.slice A len cap, .bool a1] w fun e w' => e = .returned (.bool true) ∧ Below w.heap.size w w' := by
  have g1 : (60 : Int) < (len : Int) := by omega
  cases a1
  all_goals
    go_enter Try.func8, Try.ntmps8
    go_wp2_with fail
    refine (alive_calls w).mono ?_
    rintro e V ⟨rfl, hb⟩
    go_wp2
    go_ret
    exact ⟨rfl, hb⟩
theorem ArqMeets_walk (A : Option Addr) (len cap : Nat) (zs : List Int) (a1 : Bool) (w : World)
    (h : (A = none ∧ len = 0 ∧ cap = 0 ∧ zs = []) ∨ ∃ x, A = some x ∧ len ≤ cap ∧ cap ≤ maxLen ∧ zs.length = cap ∧ (∀ i, i < zs.length → w.cell? (x.add i) = some (.int .i64 (zs.getD i 0))) ∧ ∀ n ∈ zs, (Lit.int .i64 n).wf = true) :
    Calls Try.prog 8 #[.slice A len cap, .bool a1] w fun e w' => e = .returned (.bool true) ∧ Below w.heap.size w w' := by
  obtain ⟨l, rfl, h1, h2, hr⟩ := RdI.of_row h
  by_cases hl : 60 < l.length
  · exact ArqMeets_far A l.length cap a1 w hl (by unfold maxLen at h2; omega)
  · cases a1
    · exact ArqMeets_main A cap l w hr (by omega)
    · exact ArqMeets_wide A cap l w hr (by omega)
end
end Go.Proofs.Ytdidmpimlodffaa

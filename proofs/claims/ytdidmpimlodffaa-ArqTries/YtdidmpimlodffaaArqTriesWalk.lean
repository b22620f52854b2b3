/- The law ArqTries, walked. No condition. -/
import Derived.Test.YtdidmpimlodffaaG12
import Derived.Deep.LoopGhost
namespace Go.Proofs.Ytdidmpimlodffaa
open Go.RowKit
set_option linter.unusedVariables false

namespace Aq
/-- an end that tries: its state k, i tries done, all else at rest -/
structure Tk (s : Aq) (k t n i : Nat) : Prop where
  ok : s.Ok
  st : s.st = k
  k3 : k = 1 ∨ k = 3
  t1 : s.t1 = t
  n2 : s.n2 = n
  lf : s.lf = t
  tr : s.tr = i
  is : s.is = []
  lo : s.lo = 0
theorem Tk.late {s : Aq} {k : Nat} (hk : k = 1 ∨ k = 3) (hs : s.st = k) : ∃ j, s.late = s.send j true := by
  rcases hk with rfl | rfl
  · exact ⟨3, by unfold Aq.late; rw [hs]; rfl⟩
  · exact ⟨5, by unfold Aq.late; rw [hs]; rfl⟩
/-- all but the last step -/
theorem Tk.wait {s : Aq} {k t n i : Nat} (h : s.Tk k t n i) (ht : 1 ≤ t) (ht2 : t ≤ 50) : s.pass ((t : Int) - 1) = s.setLf 1 := by
  rw [pass_eq, show (min (max ((t : Int) - 1) 0) 1048576).toNat = t - 1 by omega, passP_less (by rw [h.lf]; omega) (by rw [h.lf]; omega), h.lf, show t - (t - 1) = 1 by omega]
/-- the last step -/
theorem Tk.step {s : Aq} {k t n i : Nat} (h : s.Tk k t n i) (ht : 1 ≤ t) (hi : i < n) (ho : s.os = []) : ((s.setLf 1).output.pass 1).Tk k t n (i + 1) ∧ ((s.setLf 1).output.pass 1).os.length = 1 := by
  have e0 : (s.setLf 1).output.pass 1 = passP 0 (s.setLf 1).output.expire := by
    rw [pass_eq, show (min (max (1 : Int) 0) 1048576).toNat = 1 by decide, passP_go (n := 1) (s := (s.setLf 1).output) ⟨by show 0 < 1; omega, Nat.le_refl _⟩]
    rfl
  have e1 : (s.setLf 1).output.expire = (((s.setLf 1).output.setTr (i + 1)).start).late := by
    unfold Aq.expire
    rw [show (s.setLf 1).output.tr = i from h.tr, show (s.setLf 1).output.n2 = n from h.n2, if_neg (by omega)]
  obtain ⟨j, e2⟩ := Tk.late (s := ((s.setLf 1).output.setTr (i + 1)).start) h.k3 h.st
  have e3 : passP 0 (((s.setLf 1).output.setTr (i + 1)).start.send j true) = (((s.setLf 1).output.setTr (i + 1)).start.send j true) := by
    have hl : (((s.setLf 1).output.setTr (i + 1)).start.send j true).lf = t := h.t1
    rw [passP_less (by rw [hl]; omega) (by rw [hl]; omega), Nat.sub_zero]
    rfl
  rw [e0, e1, e2, e3]
  refine ⟨⟨((((h.ok.setLf (by omega)).output.setTr _).start).send _ _), h.st, h.k3, h.t1, h.n2, h.t1, rfl, h.is, h.lo⟩, ?_⟩
  show ([] ++ [_]).length = 1
  rfl
/-- the end -/
theorem Tk.last {s : Aq} {k t n : Nat} (h : s.Tk k t n n) (ht : 1 ≤ t) (ht2 : t ≤ 50) (ho : s.os = []) : (s.pass (t : Int)).st = 0 ∧ (s.pass (t : Int)).os = [] ∧ (s.pass (t : Int)).is = [2] := by
  have e0 : s.pass (t : Int) = passP 0 s.expire := by
    rw [pass_eq, show (min (max (t : Int) 0) 1048576).toNat = t by omega, passP_go (by rw [h.lf]; omega), h.lf, Nat.sub_self]
  have e1 : s.expire = (s.setTr (n + 1)).fin := by
    unfold Aq.expire
    rw [h.tr, h.n2, if_pos (by omega)]
  rw [e0, e1, passP_off rfl]
  refine ⟨rfl, ho, ?_⟩
  show s.is ++ [2] = [2]
  rw [h.is]
  rfl
theorem Tk.fits {s : Aq} {k t n i : Nat} (h : s.Tk k t n i) (hi : i ≤ 100) (ho : s.os.length ≤ 10) : s.Fits := ⟨by rw [h.tr]; exact hi, .inr ⟨by omega, by rw [h.is]; decide, by rw [h.lo]; decide⟩⟩
theorem Tk.out {s : Aq} {k t n i : Nat} (h : s.Tk k t n i) : s.output.Tk k t n i := ⟨h.ok.output, h.st, h.k3, h.t1, h.n2, h.lf, h.tr, h.is, h.lo⟩
end Aq
section
variable {w v v' : World} {H : Nat → Prop} {b : Nat} {s : Aq}
theorem AqOne.pass (h : AqOne H w v b s) (hf : s.Fits) (n : Int) : Calls Try.prog 21 #[.pointer (some ⟨b, 0, none⟩), .int .i64 n] v fun e v' => e = .returned (.tuple #[]) ∧ AqOne H w v' b (s.pass n) ∧ Kept H v v' := h.call fun F hp => aqPass_calls hp hf n
theorem AqOne.close (h : AqOne H w v b s) (hf : s.os.length ≤ 1000000) (hlo : s.lo ≤ 1000000000000) : Calls Try.prog 30 #[.pointer (some ⟨b, 0, none⟩)] v fun e v' => e = .returned (.int .i64 s.closeE) ∧ AqOne H w v' b s.close ∧ Kept H v v' := h.call fun F hp => aqClose_calls hp hf hlo
/-- Output, of which only the number counts -/
theorem AqOne.outs (h : AqOne (fun _ => False) w v b s) : Calls Try.prog 27 #[.pointer (some ⟨b, 0, none⟩)] v fun e v' => ∃ A c, e = .returned (.slice A s.os.length c) ∧ AqOne (fun _ => False) w v' b s.output := by
  refine h.output.mono ?_
  rintro e v' ⟨A, c, G, rfl, row, h2, _⟩
  obtain ⟨F, h3, h4, h5, _⟩ := h2
  exact ⟨A, c, rfl, F, h3, fun k hk => ⟨(h4 k hk).1, fun h => h⟩, h5, fun _ h => h.elim⟩
theorem AqOne.inds (h : AqOne (fun _ => False) w v b s) : Calls Try.prog 31 #[.pointer (some ⟨b, 0, none⟩)] v fun e v' => ∃ A c, e = .returned (.slice A s.is.length c) ∧ MidV 3 v' A c (s.is.map nvi) ∧ (∀ k, blk A = some k → k < v'.heap.size) ∧ AqOne (fun k => blk A = some k) w v' b s.inds := by
  obtain ⟨F, h1, h2, h3, h4⟩ := h
  refine (aqInds_calls h1).mono ?_
  rintro e v' ⟨A, c, G, F', rfl, ⟨row, hA⟩, hp, hG, hF', hd, on⟩
  exact ⟨A, c, rfl, row, row.blk_lt, F', hp, fun k hk => ⟨(h2 k (hF' k hk)).1, fun h => hd k hk (hA k h)⟩, h3.trans (on.below (fun k hk => (h2 k hk).1) h3.size), fun k hk => row.blk_lt k hk⟩
set_option maxRecDepth 20000 in
set_option maxHeartbeats 2000000 in
/-- outside the bounds -/
theorem ArqTries_far (a0 a1 : Int) (a2 : Bool) (h0 : I64 a0) (h1 : I64 a1) (h : ¬ (1 ≤ a0 ∧ a0 ≤ 50 ∧ 1 ≤ a1 ∧ a1 ≤ 20)) (w : World) :
    Calls Try.prog 6 #[.int .i64 a0, .int .i64 a1, .bool a2] w fun e w' => e = .returned (.bool true) ∧ Below w.heap.size w w' := by
  have key : a0 < 1 ∨ (¬ a0 < 1 ∧ 50 < a0) ∨ (¬ a0 < 1 ∧ ¬ 50 < a0 ∧ a1 < 1) ∨ (¬ a0 < 1 ∧ ¬ 50 < a0 ∧ ¬ a1 < 1 ∧ 20 < a1) := by omega
  clear h h0 h1
  rcases key with g1 | ⟨g1, g2⟩ | ⟨g1, g2, g3⟩ | ⟨g1, g2, g3, g4⟩
  all_goals
    go_enter Try.func6, Try.ntmps6
    go_wp2_with fail
    refine (alive_calls w).mono ?_
    rintro e V ⟨rfl, hb⟩
    go_wp2
    go_ret
    exact ⟨rfl, hb⟩
def tryC (t n : Int) : Cf := ⟨0, 128, 4, t, n, 0, 0, 0, 4, 50, 0, 0, 0, 0, false, false⟩
theorem tries_new (t n : Nat) (h1 : 1 ≤ t) (h2 : t ≤ 50) (h3 : 1 ≤ n) (h4 : n ≤ 20) : (Aq.newC (tryC t n)).Ok ∧ (Aq.newC (tryC t n)).t1 = t ∧ (Aq.newC (tryC t n)).n2 = n ∧ (Aq.newC (tryC t n)).st = 0 ∧ (Aq.newC (tryC t n)).os = [] ∧ (Aq.newC (tryC t n)).is = [] ∧ (Aq.newC (tryC t n)).lo = 0 ∧ (Aq.newC (tryC t n)).lg.l = [] :=
  ⟨Aq.new_ok .., by show (min (max (t : Int) 1) 1048576).toNat = t; omega, by show (min (max (n : Int) 1) 100).toNat = n; omega, rfl, rfl, rfl, rfl, rfl⟩
theorem tries_one {s : Aq} {t n : Nat} (h : s.Ok ∧ s.t1 = t ∧ s.n2 = n ∧ s.st = 0 ∧ s.os = [] ∧ s.is = [] ∧ s.lo = 0 ∧ s.lg.l = []) : s.connect.Tk 1 t n 0 ∧ s.connect.os.length = 1 ∧ s.connect.lg.l = [] := by
  obtain ⟨h1, h2, h3, h4, h5, h6, h7, h8⟩ := h
  have e : s.connect = (({ s with tg := (s.tg + 1) % 65536, st := 1, tr := 0 } : Aq).send 3 true).start := by unfold Aq.connect; rw [if_pos h4]
  have ok := h1.connect
  rw [e] at ok ⊢
  refine ⟨⟨ok, rfl, .inl rfl, h2, h3, h2, rfl, h6, h7⟩, ?_, h8⟩
  show (s.os ++ [_]).length = 1
  rw [h5]; rfl
theorem tries_two {s : Aq} {t n : Nat} (h : s.Tk 1 t n 0) (hl : s.lg.l = []) (ho : s.os.length = 1) : s.close.Tk 3 t n 0 ∧ s.close.os.length = 2 := by
  have e : s.close = ((s.clear.setSt 3).send 5 true).start := by unfold Aq.close; rw [if_neg (by rw [h.st]; decide)]
  have ok := h.ok.close
  rw [e] at ok ⊢
  refine ⟨⟨ok, rfl, .inr rfl, h.t1, h.n2, h.t1, rfl, h.is, ?_⟩, ?_⟩
  · show s.lo + s.lg.l.length = 0
    rw [h.lo, hl]; rfl
  · show (s.os ++ [_]).length = 2
    rw [List.length_append, ho]; rfl
set_option maxRecDepth 20000 in
set_option maxHeartbeats 4000000 in
theorem ArqTries_main (t n : Nat) (a2 : Bool) (h1 : 1 ≤ t) (h2 : t ≤ 50) (h3 : 1 ≤ n) (h4 : n ≤ 20) (w : World) :
    Calls Try.prog 6 #[.int .i64 (t : Int), .int .i64 (n : Int), .bool a2] w fun e w' => e = .returned (.bool true) ∧ Below w.heap.size w w' := by
  have i1 : decide ((t : Int) < 1) = false := decide_eq_false (by omega)
  have i2 : decide ((50 : Int) < (t : Int)) = false := decide_eq_false (by omega)
  have i3 : decide ((n : Int) < 1) = false := decide_eq_false (by omega)
  have i4 : decide ((20 : Int) < (n : Int)) = false := decide_eq_false (by omega)
  have j1 : ¬ (t : Int) < 1 := by omega
  have j2 : ¬ (50 : Int) < (t : Int) := by omega
  have j3 : ¬ (n : Int) < 1 := by omega
  have j4 : ¬ (20 : Int) < (n : Int) := by omega
  have HN := Lib.hid (tries_new t n h1 h2 h3 h4)
  have NC := fun v => aqNew_calls (tryC t n) v
  unfold cfv cfc tryC at NC
  go_enter Try.func6, Try.ntmps6
  go_wp2_with fail
  refine (alive_calls w).mono ?_
  rintro e V ⟨rfl, hb⟩
  have HB := Lib.hid hb
  clear hb
  have SC := shape_calls 128 4 4 V
  unfold cfv cfc shapeC at SC
  go_wp2_with fail
  refine SC.mono ?_
  rintro e w1 ⟨rfl, be1⟩
  have HB1 := Lib.hid (HB.out.trans (be1.mono HB.out.size))
  clear be1 SC HB
  go_wp2_with fail
  refine (NC _).mono ?_
  rintro e w3 hm
  obtain ⟨b, rfl, o1, -⟩ := AqOne.made (H := fun _ => False) hm (HB1.out.alloc HB1.out.size _) (fun _ h => h.elim)
  have hnw := HN.out
  change AqOne _ w w3 b (Aq.newC (tryC t n)) at o1
  clear hm NC HN HB1
  generalize Aq.newC (tryC t n) = S0 at *
  obtain ⟨k1, k2, k3⟩ := tries_one hnw
  have CC := o1.connect (by rw [hnw.2.2.2.2.1]; decide)
  have hE : S0.connectE = 0 := by unfold Aq.connectE; rw [if_pos hnw.2.2.2.1]
  rw [hE] at CC
  clear hE hnw o1
  generalize S0.connect = S1 at *
  go_wp2_with fail
  refine CC.mono ?_
  rintro e w4 ⟨rfl, o2, -⟩
  cases a2
  · have o3 := o2
    have k4 := k1
    have hos : S1.os.length ≤ 10 := by omega
    clear o2 k1 k2 k3 CC
    have OC := o3.outs
    have HK := Lib.hid k4.out
    clear o3 k4 hos
    go_wp2_with fail
    refine OC.mono ?_
    rintro e w6 ⟨A6, c6, rfl, o6⟩
    have H0 : Aside (∃ s : Aq, AqOne (fun _ => False) w w6 b s ∧ s.Tk 1 t n 0 ∧ s.os = []) := ⟨_, o6, HK.out, rfl⟩
    clear o6 HK OC
    go_wp2_with fail
    go_loopg [10] n (fun kx s10 wr => ∃ i : Nat, s10 = .int .i64 ((i : Int) + 1) ∧ i ≤ n ∧ n - i ≤ kx ∧ Aside (∃ s : Aq, AqOne (fun _ => False) w wr b s ∧ s.Tk 1 t n i ∧ s.os = []))
    case atStart => exact ⟨0, rfl, Nat.zero_le _, by omega, H0.out⟩
    case round =>
      clear H0
      obtain ⟨i, rfl, hi, hkx, HO⟩ := hrel
      obtain ⟨s, o, k, ho⟩ := HO.out
      clear HO
      by_cases hin : i < n
      · have g0 : (i : Int) + 1 ≤ (n : Int) := by omega
        have e1 := Aq.Tk.wait k h1 h2
        obtain ⟨e2, e3⟩ := Aq.Tk.step k h1 hin ho
        have P1 := o.pass (k.fits (by omega) (by rw [ho]; exact Nat.zero_le _)) ((t : Int) - 1)
        rw [e1] at P1
        have hwt : wrap64 ((t : Int) - 1) = (t : Int) - 1 := by unfold wrap64; omega
        have HF := Lib.hid (show (s.setLf 1).output.Fits from ⟨by show s.tr ≤ 100; rw [k.tr]; omega, .inr ⟨by show 0 + (101 - s.tr) ≤ 1000000; omega, by show s.is.length ≤ _; rw [k.is]; decide, by show s.lo ≤ _; rw [k.lo]; decide⟩⟩)
        have hos1 : (s.setLf 1).os.length = 0 := by show s.os.length = 0; rw [ho]; rfl
        have HE := Lib.hid e2
        have hst : ((s.setLf 1).output.pass 1).st = 1 := e2.st
        clear e1 e2 k o ho
        generalize s.setLf 1 = sa at *
        go_wp2_with fail
        refine P1.mono ?_
        rintro e wa ⟨rfl, oa, -⟩
        have OA := oa.outs
        rw [hos1] at OA
        clear P1 oa
        go_wp2_with fail
        refine OA.mono ?_
        rintro e wb ⟨A7, c7, rfl, ob⟩
        have P2 := ob.pass HF.out 1
        clear OA ob HF
        go_wp2_with fail
        refine P2.mono ?_
        rintro e wc ⟨rfl, oc, -⟩
        have OB := oc.outs
        rw [e3] at OB
        clear P2 oc
        go_wp2_with fail
        refine OB.mono ?_
        rintro e wd ⟨A8, c8, rfl, od⟩
        have ST := od.state
        rw [show (((sa.output.pass 1)).output).st = (sa.output.pass 1).st from rfl, hst] at ST
        have HR : Aside (∃ s : Aq, AqOne (fun _ => False) w wd b s ∧ s.Tk 1 t n (i + 1) ∧ s.os = []) := ⟨_, od, HE.out.out, rfl⟩
        clear OB od HE e3 hst hos1
        go_wp2_with fail
        refine ST.mono ?_
        rintro e we ⟨rfl, hv⟩
        obtain rfl := hv.symm
        go_wp2
        go_roundg (n - (i + 1))
        case measure => omega
        case rel => exact ⟨i + 1, by go_num, by omega, Nat.le_refl _, HR.out⟩
      · have hin2 : i = n := by omega
        subst hin2
        have g0 : ¬ (i : Int) + 1 ≤ (i : Int) := by omega
        obtain ⟨e1, e2, e3⟩ := Aq.Tk.last k h1 h2 ho
        have P1 := o.pass (k.fits (by omega) (by rw [ho]; exact Nat.zero_le _)) (t : Int)
        clear k o ho
        generalize s.pass (t : Int) = sa at *
        go_wp2_with fail
        refine P1.mono ?_
        rintro e wa ⟨rfl, oa, -⟩
        have IC := oa.inds
        rw [e3] at IC
        clear P1 oa
        go_wp2_with fail
        refine IC.mono ?_
        rintro e wb ⟨A7, c7, rfl, row, hA, ob⟩
        have ST := ob.state
        rw [show sa.inds.st = sa.st from rfl, e1] at ST
        have OB := ob.output
        rw [show sa.inds.os = sa.os from rfl, e2] at OB
        have HRW := Lib.hid row
        clear IC ob row
        go_wp2_with fail
        refine ST.mono ?_
        rintro e wc ⟨rfl, hv⟩
        obtain rfl := hv.symm
        clear ST
        go_wp2_with fail
        refine OB.mono ?_
        rintro e wd ⟨A8, c8, G8, rfl, -, od, ⟨Fk, onk, hdk, -⟩, -⟩
        obtain ⟨g, off, rfl, kc⟩ := (HRW.out.only onk (fun k hk hF => hdk k hF hk)).at_ (j := 0) (v := .int .i64 2) rfl
        rw [Nat.add_zero] at kc
        have FI := Lib.hid od.bel
        clear OB od HRW onk hdk
        go_wp2
        go_ret
        exact ⟨rfl, FI.out⟩
  · obtain ⟨k4, hos⟩ := tries_two k1 k3 k2
    have CL := o2.close (by omega) (by rw [k1.lo]; decide)
    clear o2 k1 k2 k3 CC
    generalize S1.close = S2 at *
    go_wp2_with fail
    refine CL.mono ?_
    rintro e w5 ⟨rfl, o3, -⟩
    clear CL
    have OC := o3.outs
    have HK := Lib.hid k4.out
    clear o3 k4 hos
    go_wp2_with fail
    refine OC.mono ?_
    rintro e w6 ⟨A6, c6, rfl, o6⟩
    have H0 : Aside (∃ s : Aq, AqOne (fun _ => False) w w6 b s ∧ s.Tk 3 t n 0 ∧ s.os = []) := ⟨_, o6, HK.out, rfl⟩
    clear o6 HK OC
    go_wp2_with fail
    go_loopg [10] n (fun kx s10 wr => ∃ i : Nat, s10 = .int .i64 ((i : Int) + 1) ∧ i ≤ n ∧ n - i ≤ kx ∧ Aside (∃ s : Aq, AqOne (fun _ => False) w wr b s ∧ s.Tk 3 t n i ∧ s.os = []))
    case atStart => exact ⟨0, rfl, Nat.zero_le _, by omega, H0.out⟩
    case round =>
      clear H0
      obtain ⟨i, rfl, hi, hkx, HO⟩ := hrel
      obtain ⟨s, o, k, ho⟩ := HO.out
      clear HO
      by_cases hin : i < n
      · have g0 : (i : Int) + 1 ≤ (n : Int) := by omega
        have e1 := Aq.Tk.wait k h1 h2
        obtain ⟨e2, e3⟩ := Aq.Tk.step k h1 hin ho
        have P1 := o.pass (k.fits (by omega) (by rw [ho]; exact Nat.zero_le _)) ((t : Int) - 1)
        rw [e1] at P1
        have hwt : wrap64 ((t : Int) - 1) = (t : Int) - 1 := by unfold wrap64; omega
        have HF := Lib.hid (show (s.setLf 1).output.Fits from ⟨by show s.tr ≤ 100; rw [k.tr]; omega, .inr ⟨by show 0 + (101 - s.tr) ≤ 1000000; omega, by show s.is.length ≤ _; rw [k.is]; decide, by show s.lo ≤ _; rw [k.lo]; decide⟩⟩)
        have hos1 : (s.setLf 1).os.length = 0 := by show s.os.length = 0; rw [ho]; rfl
        have HE := Lib.hid e2
        have hst : ((s.setLf 1).output.pass 1).st = 3 := e2.st
        clear e1 e2 k o ho
        generalize s.setLf 1 = sa at *
        go_wp2_with fail
        refine P1.mono ?_
        rintro e wa ⟨rfl, oa, -⟩
        have OA := oa.outs
        rw [hos1] at OA
        clear P1 oa
        go_wp2_with fail
        refine OA.mono ?_
        rintro e wb ⟨A7, c7, rfl, ob⟩
        have P2 := ob.pass HF.out 1
        clear OA ob HF
        go_wp2_with fail
        refine P2.mono ?_
        rintro e wc ⟨rfl, oc, -⟩
        have OB := oc.outs
        rw [e3] at OB
        clear P2 oc
        go_wp2_with fail
        refine OB.mono ?_
        rintro e wd ⟨A8, c8, rfl, od⟩
        have ST := od.state
        rw [show (((sa.output.pass 1)).output).st = (sa.output.pass 1).st from rfl, hst] at ST
        have HR : Aside (∃ s : Aq, AqOne (fun _ => False) w wd b s ∧ s.Tk 3 t n (i + 1) ∧ s.os = []) := ⟨_, od, HE.out.out, rfl⟩
        clear OB od HE e3 hst hos1
        go_wp2_with fail
        refine ST.mono ?_
        rintro e we ⟨rfl, hv⟩
        obtain rfl := hv.symm
        go_wp2
        go_roundg (n - (i + 1))
        case measure => omega
        case rel => exact ⟨i + 1, by go_num, by omega, Nat.le_refl _, HR.out⟩
      · have hin2 : i = n := by omega
        subst hin2
        have g0 : ¬ (i : Int) + 1 ≤ (i : Int) := by omega
        obtain ⟨e1, e2, e3⟩ := Aq.Tk.last k h1 h2 ho
        have P1 := o.pass (k.fits (by omega) (by rw [ho]; exact Nat.zero_le _)) (t : Int)
        clear k o ho
        generalize s.pass (t : Int) = sa at *
        go_wp2_with fail
        refine P1.mono ?_
        rintro e wa ⟨rfl, oa, -⟩
        have IC := oa.inds
        rw [e3] at IC
        clear P1 oa
        go_wp2_with fail
        refine IC.mono ?_
        rintro e wb ⟨A7, c7, rfl, row, hA, ob⟩
        have ST := ob.state
        rw [show sa.inds.st = sa.st from rfl, e1] at ST
        have OB := ob.output
        rw [show sa.inds.os = sa.os from rfl, e2] at OB
        have HRW := Lib.hid row
        clear IC ob row
        go_wp2_with fail
        refine ST.mono ?_
        rintro e wc ⟨rfl, hv⟩
        obtain rfl := hv.symm
        clear ST
        go_wp2_with fail
        refine OB.mono ?_
        rintro e wd ⟨A8, c8, G8, rfl, -, od, ⟨Fk, onk, hdk, -⟩, -⟩
        obtain ⟨g, off, rfl, kc⟩ := (HRW.out.only onk (fun k hk hF => hdk k hF hk)).at_ (j := 0) (v := .int .i64 2) rfl
        rw [Nat.add_zero] at kc
        have FI := Lib.hid od.bel
        clear OB od HRW onk hdk
        go_wp2
        go_ret
        exact ⟨rfl, FI.out⟩
theorem ArqTries_walk (a0 a1 : Int) (a2 : Bool) (w0 : (Lit.int .i64 a0).wf = true) (w1 : (Lit.int .i64 a1).wf = true) (w : World) :
    Calls Try.prog 6 #[.int .i64 a0, .int .i64 a1, .bool a2] w fun e w' => e = .returned (.bool true) ∧ Below w.heap.size w w' := by
  by_cases h : 1 ≤ a0 ∧ a0 ≤ 50 ∧ 1 ≤ a1 ∧ a1 ≤ 20
  · obtain ⟨h1, h2, h3, h4⟩ := h
    obtain ⟨t, rfl⟩ : ∃ n : Nat, a0 = n := ⟨a0.toNat, by omega⟩
    obtain ⟨n, rfl⟩ : ∃ n : Nat, a1 = n := ⟨a1.toNat, by omega⟩
    exact ArqTries_main t n a2 (by omega) (by omega) (by omega) (by omega) w
  · exact ArqTries_far a0 a1 a2 (bounds_i64 w0) (bounds_i64 w1) h w
end
end Go.Proofs.Ytdidmpimlodffaa

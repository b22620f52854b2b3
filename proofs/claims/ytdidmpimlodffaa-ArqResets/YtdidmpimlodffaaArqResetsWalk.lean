/- The law ArqResets, walked. No condition. -/
import Derived.Test.YtdidmpimlodffaaG15
import Derived.Deep.LoopGhost
import Derived.Lib.SlBytesConst
namespace Go.Proofs.Ytdidmpimlodffaa
open Go.RowKit
set_option linter.unusedVariables false

theorem give_first {s : Aq} (ok : s.Ok) (hst : s.st = 2) (hl : s.lg.l = []) (hQ : 1 ≤ s.lg.Q) {x : List UInt8} (hx : x.length ≤ s.sz) :
    (s.give x).os = s.os ++ [Aq.hd s.tg ++ enc 0 (s.lg.f : Int) (s.od.e : Int) false s.m ++ x] ∧ s.giveE x = 0 := by
  have hn : s.lg.n = 0 := by have := ok.lg.nl; rw [hl] at this; exact Nat.le_zero.1 this
  have hW := ok.lg.w1
  have hf := ok.lg.f9
  have hfull : s.lg.full = false := by
    unfold Lg.full
    rw [hl]
    exact decide_eq_false (by simp; omega)
  have hadd : s.lg.add x = ⟨s.lg.m, s.lg.W, s.lg.Q, s.lg.f, 0, [x]⟩ := by unfold Lg.add; rw [hfull, hl, hn]; rfl
  have hst1 : (⟨s.lg.m, s.lg.W, s.lg.Q, s.lg.f, 0, [x]⟩ : Lg).stop = false := by unfold Lg.stop; simp; omega
  constructor
  · unfold Aq.give
    rw [if_neg (by omega), if_neg (by rw [hst]; simp), hfull, if_neg (by simp), hadd]
    unfold Aq.pump
    show (Aq.pumpN 1 ((s.setLg ⟨s.lg.m, s.lg.W, s.lg.Q, s.lg.f, 0, [x]⟩).setSn (s.sn + 1))).os = _
    unfold Aq.pumpN
    show (if (⟨s.lg.m, s.lg.W, s.lg.Q, s.lg.f, 0, [x]⟩ : Lg).stop = true then _ else _ : Aq).os = _
    rw [hst1, if_neg (by simp)]
    have hN : (⟨s.lg.m, s.lg.W, s.lg.Q, s.lg.f, 0, [x]⟩ : Lg).nextN = s.lg.f := by
      unfold Lg.nextN
      rw [hst1, if_neg (by simp)]
      exact Nat.mod_eq_of_lt hf
    have hX : (⟨s.lg.m, s.lg.W, s.lg.Q, s.lg.f, 0, [x]⟩ : Lg).nextX = x := by
      unfold Lg.nextX
      rw [hst1, if_neg (by simp)]
      rfl
    unfold Aq.pumpN Aq.pumpStep
    split
    · show s.os ++ [Aq.hd s.tg ++ enc 0 ((⟨s.lg.m, s.lg.W, s.lg.Q, s.lg.f, 0, [x]⟩ : Lg).nextN : Int) (s.od.e : Int) false s.m ++ (⟨s.lg.m, s.lg.W, s.lg.Q, s.lg.f, 0, [x]⟩ : Lg).nextX] = _
      rw [hN, hX]
    · show s.os ++ [Aq.hd s.tg ++ enc 0 ((⟨s.lg.m, s.lg.W, s.lg.Q, s.lg.f, 0, [x]⟩ : Lg).nextN : Int) (s.od.e : Int) false s.m ++ (⟨s.lg.m, s.lg.W, s.lg.Q, s.lg.f, 0, [x]⟩ : Lg).nextX] = _
      rw [hN, hX]
  · unfold Aq.giveE
    rw [if_neg (by omega), if_neg (by rw [hst]; simp)]
    unfold Lg.addE
    rw [hfull]
    rfl
/-- a connect that is ahead, at an end that is Up -/
theorem reset_input {s : Aq} (hst : s.st = 2) (hm : s.m = 128) {t : Nat} (ht : t < 65536) (ha : s.ahead t = true) : s.input (Aq.hd t ++ [127]) = s.accept t true := by
  have he : ([127] : List UInt8) = enc 3 0 0 true s.m := by rw [hm]; decide +kernel
  have h1 := Aq.input_enc (s := s) ht (p := true) (x := []) (Aq.right_bare (k := 3) (m := s.m) (.inl hm) (by decide))
  rw [List.append_nil] at h1
  have hne : t ≠ s.tg := by
    rintro rfl
    unfold Aq.ahead at ha
    rw [show s.tg + 65536 - s.tg = 65536 by omega] at ha
    simp at ha
  rw [he, h1]
  unfold Aq.proc Aq.request
  rw [if_pos rfl, if_neg (by rw [hst]; decide), if_neg (fun h => hne h.2), if_pos (.inr ha)]
theorem reset_ahead {s : Aq} (hs : s.tg = 1) {t : Nat} (h1 : 2 ≤ t) (h2 : t ≤ 32768) : s.ahead t = true := by
  unfold Aq.ahead
  rw [hs, show t + 65536 - 1 = 65536 + (t - 1) by omega, Nat.add_mod_left, Nat.mod_eq_of_lt (by omega)]
  simp
  omega
theorem enc_reset : enc 4 0 0 true 128 = [115] ∧ enc 0 0 0 false 128 = [0, 0] := by decide +kernel
theorem accept_os (s : Aq) (t : Nat) : (s.accept t true).os = s.os ++ [Aq.hd t ++ enc 4 0 0 true s.m] ∧ (s.accept t true).inds.output.os = [] ∧ (s.accept t true).inds.output.tg = t ∧ (s.accept t true).inds.output.lg.f = 0 ∧ (s.accept t true).inds.output.od.e = 0 ∧ (s.accept t true).inds.output.m = s.m := by
  refine ⟨?_, rfl, rfl, rfl, rfl, rfl⟩
  unfold Aq.accept Aq.send Aq.ind Aq.put Aq.setSt Aq.setTg Aq.clear Aq.nrOf
  simp
theorem reset_os {s : Aq} (hm : s.m = 128) (ho : s.os = []) (t : Nat) : (s.accept t true).os = [Aq.hd t ++ [115]] := by
  have k := (accept_os s t).1
  rw [hm, ho] at k
  have e : enc 4 0 0 true ((128 : Nat) : Int) = [115] := enc_reset.1
  rw [e] at k
  exact k
theorem reset_more {s : Aq} (ok : s.Ok) (hm : s.m = 128) (hQ : 1 ≤ s.lg.Q) (hsz : 1 ≤ s.sz) {t : Nat} (ht : t < 65536) : (s.accept t true).inds.output.giveE [122] = 0 ∧ ((s.accept t true).inds.output.give [122]).os = [Aq.hd t ++ [0, 0, 122]] := by
  obtain ⟨-, k2, k3, k4, k5, k6⟩ := accept_os s t
  obtain ⟨g1, g2⟩ := give_first (s := (s.accept t true).inds.output) (x := [122]) ((ok.accept ht true).inds.output) rfl rfl hQ hsz
  rw [k2, k3, k4, k5, k6, hm] at g1
  have e : enc 0 ((0 : Nat) : Int) ((0 : Nat) : Int) false ((128 : Nat) : Int) = [0, 0] := enc_reset.2
  rw [e, List.nil_append, List.append_assoc] at g1
  exact ⟨g2, g1⟩
/-- what the reset leaves -/
theorem reset_all {u : Aq} (ok : u.Ok) (hst : u.st = 2) (hm : u.m = 128) (htg : u.tg = 1) (his : u.is = []) (hos : u.os = []) (hlo : u.lo = 0) (hQ : 1 ≤ u.lg.Q) (hsz : 1 ≤ u.sz) {t : Nat} (h1 : 2 ≤ t) (h2 : t ≤ 32768) :
    ∃ S : Aq, u.input (Aq.hd t ++ [127]) = S ∧ S.is = [3] ∧ S.os = [Aq.hd t ++ [115]] ∧ S.lo = u.lg.l.length ∧ S.inds.output.giveE [122] = 0 ∧ (S.inds.output.give [122]).os = [Aq.hd t ++ [0, 0, 122]] ∧ S.sn = u.sn ∧ S.lg.n = 0 ∧ S.lg.W = u.lg.W := by
  obtain ⟨g1, g2⟩ := reset_more ok hm hQ hsz (t := t) (by omega)
  refine ⟨u.accept t true, reset_input hst hm (by omega) (reset_ahead htg h1 h2), ?_, reset_os hm hos t, ?_, g1, g2, rfl, rfl, rfl⟩
  · show u.is ++ [if u.st = 2 then 3 else 1] = [3]
    rw [his, hst]
    rfl
  · show u.lo + u.lg.l.length = _
    rw [hlo, Nat.zero_add]
theorem rst_shape : (upS (shapeC 128 4 20)).lg.W = 4 ∧ (upS (shapeC 128 4 20)).lg.Q = 20 ∧ (upS (shapeC 128 4 20)).sz = 50 ∧ (upS (shapeC 128 4 20)).m = 128 ∧ (upS (shapeC 128 4 20)).tg = 1 ∧ (upS (shapeC 128 4 20)).is = [] ∧ (upS (shapeC 128 4 20)).lo = 0 ∧ (upS (shapeC 128 4 20)).od.all = 0 ∧ (upS (shapeC 128 4 20)).ak = 0 := by decide +kernel
section
variable {w v v' : World} {H : Nat → Prop}
set_option maxRecDepth 20000 in
set_option maxHeartbeats 4000000 in
theorem ArqResets_main (n t : Nat) (h0 : n ≤ 10) (h1 : 2 ≤ t) (h2 : t ≤ 32768) (w : World) :
    Calls Try.prog 14 #[.int .i64 (n : Int), .int .i64 (t : Int)] w fun e w' => e = .returned (.bool true) ∧ Below w.heap.size w w' := by
  have i1 : decide ((n : Int) < 0) = false := decide_eq_false (by omega)
  have i2 : decide ((10 : Int) < (n : Int)) = false := decide_eq_false (by omega)
  have i3 : decide ((t : Int) < 2) = false := decide_eq_false (by omega)
  have i4 : decide ((32768 : Int) < (t : Int)) = false := decide_eq_false (by omega)
  have j1 : ¬ (n : Int) < 0 := by omega
  have j2 : ¬ (10 : Int) < (n : Int) := by omega
  have j3 : ¬ (t : Int) < 2 := by omega
  have j4 : ¬ (32768 : Int) < (t : Int) := by omega
  have hand : bits .and .i64 (t : Int) 255 = (t : Int) % 256 := i64_and255 _
  have h8 := byte_hi (t := t) (by omega)
  have l8 := byte_lo t
  have hhd : Aq.hd t = [UInt8.ofNat (t / 256), UInt8.ofNat t] := rfl
  obtain ⟨e1, e2, e3, e4, e5, e6, e7, e8, e9⟩ := rst_shape
  have hRest := upS_rest (shapeC 128 4 20)
  go_enter Try.func14, Try.ntmps14
  go_wp2_with fail
  refine (alive_calls w).mono ?_
  rintro e V ⟨rfl, hb⟩
  have HB := Lib.hid hb
  clear hb
  have SC := shape_calls 128 4 20 V
  go_wp2_with fail
  refine SC.mono ?_
  rintro e w1 ⟨rfl, be1⟩
  have UP := up_calls (shapeC 128 4 20) (HB.out.trans (be1.mono HB.out.size))
  clear SC HB be1
  go_wp2_with fail
  refine UP.mono ?_
  rintro e w2 ⟨P, b, rfl, o⟩
  have H0 : Aside (PrOne (fun _ => False) w w2 P b ((upP (shapeC 128 4 20)).setA false (sentS (upS (shapeC 128 4 20)) (wins 0)))) := by
    rw [show wins 0 = [] from rfl, sentS_nil hRest, show (upP (shapeC 128 4 20)).setA false (upS (shapeC 128 4 20)) = upP (shapeC 128 4 20) from Pr.setA_self (upP (shapeC 128 4 20)) false]
    exact o
  clear o UP
  generalize upP (shapeC 128 4 20) = p0 at *
  generalize upS (shapeC 128 4 20) = s at *
  have hQ1 : 1 ≤ s.lg.Q := by omega
  go_wp2_with fail
  go_loopg [7] n (fun kx s13 wr => ∃ k : Nat, s13 = .int .i64 (k : Int) ∧ k ≤ n ∧ n - k ≤ kx ∧ Aside (PrOne (fun _ => False) w wr P b (p0.setA false (sentS s (wins k)))))
  case atStart => exact ⟨0, rfl, by omega, by omega, H0⟩
  case round =>
    clear H0
    obtain ⟨k, rfl, hk, hkx, HO⟩ := hrel
    by_cases hkn : k < n
    · have g0 : (k : Int) < (n : Int) := by omega
      have h := HO.out
      have k0 : wr.cell? ⟨P, 0, none⟩ = some (.pointer (some ⟨b false, 0, none⟩)) := h.ptr false
      have h' := h.beside (laid_below wr [UInt8.ofNat k])
      have st := sentS_give hRest hQ1 (L := wins k) (x := [UInt8.ofNat k]) (by rw [wins_len, e1, e2]; omega) (by rw [e3]; show 1 ≤ 50; decide)
      rw [← wins_next] at st
      have SN := h'.send false (by rw [Pr.setA_a, sentS_os, wins_len]; show min _ _ + (s.lg.W - _) ≤ _; omega) (by rw [Pr.setA_a]; show (wins _).length ≤ _; rw [wins_len]; omega) (some ⟨wr.heap.size, 0, none⟩) 1 [UInt8.ofNat k] (laid_rd wr _) (by show 1 ≤ 1048576; decide)
      rw [Pr.setA_a, st.1, st.2, Pr.setA_twice, laid_byte wr (by omega)] at SN
      clear h h' st HO
      go_wp2_with fail
      refine SN.mono ?_
      rintro e w3 ⟨rfl, h', -, -⟩
      have HR : Aside (PrOne (fun _ => False) w w3 P b (p0.setA false (sentS s (wins (k + 1))))) := h'
      clear SN h'
      go_wp2
      go_roundg (n - (k + 1))
      case measure => omega
      case rel => exact ⟨k + 1, by go_num, by omega, Nat.le_refl _, HR⟩
    · have hkE : k = n := by omega
      subst hkE
      have g0 : ¬ (k : Int) < (k : Int) := by omega
      have h := HO.out
      have k0 : wr.cell? ⟨P, 0, none⟩ = some (.pointer (some ⟨b false, 0, none⟩)) := h.ptr false
      clear HO
      have okL : (sentS s (wins k)).Ok := by have := h.ok false; rw [Pr.setA_a] at this; exact this
      obtain ⟨S, hS, s1, s2, s3, s4, s5, s6, s7, s8⟩ := reset_all (u := (sentS s (wins k)).output.inds) okL.output.inds hRest.st e4 e5 rfl rfl e7 hQ1 (by show 1 ≤ s.sz; rw [e3]; decide) h1 h2
      have OC := h.output false
      rw [Pr.setA_a, Pr.setA_twice] at OC
      clear h
      go_wp2_with fail
      refine OC.mono ?_
      rintro e w3 ⟨A, c, G, rfl, -, h3, -, -, -⟩
      have h3 := h3.less (G := fun _ => False) (fun _ h => h.elim)
      have k3 : w3.cell? ⟨P, 0, none⟩ = some (.pointer (some ⟨b false, 0, none⟩)) := h3.ptr false
      have IC := h3.inds false
      rw [Pr.setA_a, Pr.setA_twice] at IC
      clear OC h3 k0
      go_wp2_with fail
      refine IC.mono ?_
      rintro e w4 ⟨A4, c4, G4, rfl, -, h4, -, -, -⟩
      have h4 := h4.less (G := fun _ => False) (fun _ h => h.elim)
      have k4 : w4.cell? ⟨P, 0, none⟩ = some (.pointer (some ⟨b false, 0, none⟩)) := h4.ptr false
      clear IC k3
      have e1 := Lib.hid e1
      have e2 := Lib.hid e2
      rw [hhd] at hS s2 s5
      generalize UInt8.ofNat (t / 256) = hb at *
      generalize UInt8.ofNat t = lb at *
      have HS := Lib.hid (And.intro hS (And.intro s1 (And.intro s2 (And.intro s3 (And.intro s4 (And.intro s5 (And.intro s6 (And.intro s7 s8))))))))
      have HRM := Lib.hid (show (sentS s (wins k)).output.inds.Room from ⟨Nat.zero_le _, Nat.zero_le _, by show s.od.all ≤ _; rw [e8]; exact Nat.zero_le _, by show (wins k).length ≤ _; rw [wins_len]; omega, by show s.ak ≤ _; rw [e9]; exact Nat.zero_le _, by show s.lo ≤ _; rw [e7]; exact Nat.zero_le _⟩)
      have HSP := Lib.hid (And.intro e3 (And.intro e4 (And.intro e5 (And.intro e6 e7))))
      have HRR := Lib.hid (And.intro hRest okL)
      clear hS s1 s2 s3 s4 s5 s6 s7 s8 hhd e3 e4 e5 e6 e7 e8 e9 hRest okL hQ1
      have IN := (h4.grow (laid_below w4 [hb, lb, 127])).input false (by rw [Pr.setA_a]; exact HRM.out) (some ⟨w4.heap.size, 0, none⟩) 3 [hb, lb, 127] (laid_rd w4 _) (by show 3 ≤ 90000; decide) (Nat.le_refl _) (by decide) (fun i hi => .inr (by injection hi with hi; rw [← hi, laid_size]; exact ⟨Nat.le_refl _, Nat.lt_succ_self _⟩))
      rw [Pr.setA_a, Pr.setA_twice, show (sentS s (wins k)).output.inds.input [hb, lb, 127] = S from HS.out.1] at IN
      clear h4 HRM HRR HSP
      go_wp2_with fail
      refine IN.mono ?_
      rintro e w5 ⟨rfl, h5, -, -⟩
      have h5 := h5.less (G := fun _ => False) (fun _ h => h.elim)
      have k5 : w5.cell? ⟨P, 0, none⟩ = some (.pointer (some ⟨b false, 0, none⟩)) := h5.ptr false
      have IC := h5.inds false
      obtain ⟨-, s1, s2, s3, s4, s5, s6, s7, s8⟩ := HS.out
      rw [Pr.setA_a, Pr.setA_twice, s1] at IC
      clear IN h5 k4 HS
      have HS1 := Lib.hid (And.intro s2 (And.intro s3 (And.intro s4 (And.intro s5 (And.intro s6 (And.intro s7 s8))))))
      clear s1 s2 s3 s4 s5 s6 s7 s8
      go_wp2_with fail
      refine IC.mono ?_
      rintro e w6 ⟨A6, c6, G6, rfl, num6, h6, -, -, -⟩
      have k6 : w6.cell? ⟨P, 0, none⟩ = some (.pointer (some ⟨b false, 0, none⟩)) := h6.ptr false
      have OC := h6.output false
      rw [Pr.setA_a, Pr.setA_twice, show S.inds.os = S.os from rfl, HS1.out.1] at OC
      have HN6 := Lib.hid num6
      clear IC h6 k5 num6
      go_wp2_with fail
      refine OC.mono ?_
      rintro e w7 ⟨A7, c7, G7, rfl, row7, h7, K7, -, -⟩
      have num7 := K7.num (HN6.out.wide fun _ h => .inr h)
      have k7 : w7.cell? ⟨P, 0, none⟩ = some (.pointer (some ⟨b false, 0, none⟩)) := h7.ptr false
      have CC := h7.counts false
      rw [Pr.setA_a, show S.inds.output.lo = S.lo from rfl, HS1.out.2.1, show (sentS s (wins k)).output.inds.lg.l.length = k from wins_len k] at CC
      have H7 := Lib.hid h7
      have HN7 := Lib.hid (And.intro num7 row7)
      clear OC h7 K7 num7 row7 k6 HN6
      go_wp2_with fail
      refine CC.mono ?_
      rintro e w8 ⟨rfl, q, rfl⟩
      obtain ⟨W8, hW8⟩ : ∃ W8, laidM (w7.drewN q) [122] = W8 := ⟨_, rfl⟩
      have qz : (convert 39 39 (.slice (some ⟨w7.heap.size, 0, none⟩) 1 1)).run Try.prog ((w7.drewN q).alloc (.cells #[.int .u8 122] 5)) = .ok (.slice (some ⟨w7.heap.size, 0, none⟩) 1 1) W8 := by
        rw [← hW8]
        exact Lib.run_convert_bytes_const (P := Try.prog) (w7.drewN q) 39 5 #[.int .u8 122] 1 1 Try.underlying39 Try.underlying5
      have be8 : Below (w7.drewN q).heap.size (w7.drewN q) W8 := by rw [← hW8]; exact laidM_below _ _
      have k8 : (w7.drewN q).cell? ⟨P, 0, none⟩ = some (.pointer (some ⟨b false, 0, none⟩)) := k7
      have h8 := (H7.out.drewN q).beside be8
      have rd8 : Rd W8 (some ⟨w7.heap.size, 0, none⟩) [122] := by rw [← hW8]; exact laidM_rd (w7.drewN q) [122]
      have SN := h8.send false (by rw [Pr.setA_a, show S.inds.output.lg.n = S.lg.n from rfl, show S.inds.output.lg.W = S.lg.W from rfl, HS1.out.2.2.2.2.2.1, HS1.out.2.2.2.2.2.2]; show 0 + (s.lg.W - 0) ≤ _; rw [e1.out]; decide) (by rw [Pr.setA_a, show S.inds.output.sn = S.sn from rfl, HS1.out.2.2.2.2.1]; show (wins k).length ≤ _; rw [wins_len]; omega) (some ⟨w7.heap.size, 0, none⟩) 1 [122] rd8 (by decide)
      rw [Pr.setA_a, Pr.setA_twice, HS1.out.2.2.1] at SN
      have HK8 := Lib.hid (show Kept (fun k => ((False ∨ G6 k) ∨ G7 k)) w7 W8 from (Kept.drewN q).trans (Kept.of_below be8))
      clear CC k7 hW8 be8 rd8 H7
      clear h8
      go_wp2_with fail
      refine SN.mono ?_
      rintro e w9 ⟨rfl, h9, K9, -⟩
      have k9 : w9.cell? ⟨P, 0, none⟩ = some (.pointer (some ⟨b false, 0, none⟩)) := h9.ptr false
      have OC := h9.output false
      rw [Pr.setA_a, Pr.setA_twice, show (S.inds.output.give [122]).os = [[hb, lb, 0, 0, 122]] from HS1.out.2.2.2.1] at OC
      have HK9 := Lib.hid (HK8.out.trans K9)
      clear SN h9 K9 qz k8
      go_wp2_with fail
      refine OC.mono ?_
      rintro e w10 ⟨A10, c10, G10, rfl, row10, h10, K10, -, -⟩
      have K10 := HK9.out.trans K10
      obtain ⟨g6, o6, rfl, m6⟩ := (K10.num (HN7.out.1.wide fun _ h => .inl h)).at_ (j := 0) (by decide)
      obtain ⟨g7, o7, B7, d7, rfl, m7, rd7, -⟩ := (K10.row (HN7.out.2.wide fun _ h => .inr h)).at_ (i := 0) (by show 0 < 1; decide)
      obtain ⟨g10, o10, B10, d10, rfl, m10, rd10, -⟩ := row10.at_ (i := 0) (by show 0 < 1; decide)
      have m6 : w10.cell? ⟨g6, o6, none⟩ = some (.int .i64 3) := m6
      have m7 : w10.cell? ⟨g7, o7, none⟩ = some (.slice B7 3 d7) := m7
      have m10 : w10.cell? ⟨g10, o10, none⟩ = some (.slice B10 5 d10) := m10
      have be11 : Below w10.heap.size w10 (w10.alloc (.cells #[.int .u8 (hb.toNat : Int), .int .u8 (lb.toNat : Int), .int .u8 115] 5)) := (Below.refl _ _).alloc (Nat.le_refl _) _
      have hs11 : (w10.alloc (.cells #[.int .u8 (hb.toNat : Int), .int .u8 (lb.toNat : Int), .int .u8 115] 5)).heap.size = w10.heap.size + 1 := Array.size_push ..
      have be12 : Below (w10.alloc (.cells #[.int .u8 (hb.toNat : Int), .int .u8 (lb.toNat : Int), .int .u8 115] 5)).heap.size (w10.alloc (.cells #[.int .u8 (hb.toNat : Int), .int .u8 (lb.toNat : Int), .int .u8 115] 5)) ((w10.alloc (.cells #[.int .u8 (hb.toNat : Int), .int .u8 (lb.toNat : Int), .int .u8 115] 5)).alloc (.cells #[.int .u8 (hb.toNat : Int), .int .u8 (lb.toNat : Int), .int .u8 0, .int .u8 0, .int .u8 122] 5)) := (Below.refl _ _).alloc (Nat.le_refl _) _
      have be11d : Below w10.heap.size w10 (w10.alloc (.cells #[.int .u8 (hb.toNat : Int), .int .u8 (lb.toNat : Int), .int .u8 115] 5)).drew := be11.trans ⟨rfl, rfl, rfl, Nat.le_refl _, fun _ _ => rfl⟩
      have be12d : Below (w10.alloc (.cells #[.int .u8 (hb.toNat : Int), .int .u8 (lb.toNat : Int), .int .u8 115] 5)).heap.size (w10.alloc (.cells #[.int .u8 (hb.toNat : Int), .int .u8 (lb.toNat : Int), .int .u8 115] 5)) ((w10.alloc (.cells #[.int .u8 (hb.toNat : Int), .int .u8 (lb.toNat : Int), .int .u8 115] 5)).alloc (.cells #[.int .u8 (hb.toNat : Int), .int .u8 (lb.toNat : Int), .int .u8 0, .int .u8 0, .int .u8 122] 5)).drew := be12.trans ⟨rfl, rfl, rfl, Nat.le_refl _, fun _ _ => rfl⟩
      have m7b : (w10.alloc (.cells #[.int .u8 (hb.toNat : Int), .int .u8 (lb.toNat : Int), .int .u8 115] 5)).cell? ⟨g7, o7, none⟩ = some (.slice B7 3 d7) := (be11.cell (World.block_lt_of_cell? w10 _ m7)).trans m7
      have m10b : (w10.alloc (.cells #[.int .u8 (hb.toNat : Int), .int .u8 (lb.toNat : Int), .int .u8 115] 5)).cell? ⟨g10, o10, none⟩ = some (.slice B10 5 d10) := (be11.cell (World.block_lt_of_cell? w10 _ m10)).trans m10
      have m10c : ((w10.alloc (.cells #[.int .u8 (hb.toNat : Int), .int .u8 (lb.toNat : Int), .int .u8 115] 5)).alloc (.cells #[.int .u8 (hb.toNat : Int), .int .u8 (lb.toNat : Int), .int .u8 0, .int .u8 0, .int .u8 122] 5)).cell? ⟨g10, o10, none⟩ = some (.slice B10 5 d10) := (be12.cell (World.block_lt_of_cell? _ _ m10b)).trans m10b
      have q7 : (convert 39 9 (.slice B7 3 d7)).run Try.prog w10.drew = .ok (.string ⟨#[hb, lb, 115]⟩) w10.drew := run_conv w10.drew B7 d7 [hb, lb, 115] rd7
      have q7b : (convert 39 9 (.slice B7 3 d7)).run Try.prog (w10.alloc (.cells #[.int .u8 (hb.toNat : Int), .int .u8 (lb.toNat : Int), .int .u8 115] 5)).drew = .ok (.string ⟨#[hb, lb, 115]⟩) (w10.alloc (.cells #[.int .u8 (hb.toNat : Int), .int .u8 (lb.toNat : Int), .int .u8 115] 5)).drew := run_conv (w10.alloc (.cells #[.int .u8 (hb.toNat : Int), .int .u8 (lb.toNat : Int), .int .u8 115] 5)).drew B7 d7 [hb, lb, 115] (rd7.below be11d)
      have q11 : (convert 39 9 (.slice (some ⟨w10.heap.size, 0, none⟩) 3 3)).run Try.prog (w10.alloc (.cells #[.int .u8 (hb.toNat : Int), .int .u8 (lb.toNat : Int), .int .u8 115] 5)).drew = .ok (.string ⟨#[hb, lb, 115]⟩) (w10.alloc (.cells #[.int .u8 (hb.toNat : Int), .int .u8 (lb.toNat : Int), .int .u8 115] 5)).drew := run_conv (laid w10.drew [hb, lb, 115]) (some ⟨w10.heap.size, 0, none⟩) 3 [hb, lb, 115] (laid_rd w10.drew _)
      have q10b : (convert 39 9 (.slice B10 5 d10)).run Try.prog (w10.alloc (.cells #[.int .u8 (hb.toNat : Int), .int .u8 (lb.toNat : Int), .int .u8 115] 5)).drew = .ok (.string ⟨#[hb, lb, 0, 0, 122]⟩) (w10.alloc (.cells #[.int .u8 (hb.toNat : Int), .int .u8 (lb.toNat : Int), .int .u8 115] 5)).drew := run_conv (w10.alloc (.cells #[.int .u8 (hb.toNat : Int), .int .u8 (lb.toNat : Int), .int .u8 115] 5)).drew B10 d10 [hb, lb, 0, 0, 122] (rd10.below be11d)
      have q10c : (convert 39 9 (.slice B10 5 d10)).run Try.prog ((w10.alloc (.cells #[.int .u8 (hb.toNat : Int), .int .u8 (lb.toNat : Int), .int .u8 115] 5)).alloc (.cells #[.int .u8 (hb.toNat : Int), .int .u8 (lb.toNat : Int), .int .u8 0, .int .u8 0, .int .u8 122] 5)).drew = .ok (.string ⟨#[hb, lb, 0, 0, 122]⟩) ((w10.alloc (.cells #[.int .u8 (hb.toNat : Int), .int .u8 (lb.toNat : Int), .int .u8 115] 5)).alloc (.cells #[.int .u8 (hb.toNat : Int), .int .u8 (lb.toNat : Int), .int .u8 0, .int .u8 0, .int .u8 122] 5)).drew := run_conv ((w10.alloc (.cells #[.int .u8 (hb.toNat : Int), .int .u8 (lb.toNat : Int), .int .u8 115] 5)).alloc (.cells #[.int .u8 (hb.toNat : Int), .int .u8 (lb.toNat : Int), .int .u8 0, .int .u8 0, .int .u8 122] 5)).drew B10 d10 [hb, lb, 0, 0, 122] ((rd10.below be11).below be12d)
      have q12 : (convert 39 9 (.slice (some ⟨w10.heap.size + 1, 0, none⟩) 5 5)).run Try.prog ((w10.alloc (.cells #[.int .u8 (hb.toNat : Int), .int .u8 (lb.toNat : Int), .int .u8 115] 5)).alloc (.cells #[.int .u8 (hb.toNat : Int), .int .u8 (lb.toNat : Int), .int .u8 0, .int .u8 0, .int .u8 122] 5)).drew = .ok (.string ⟨#[hb, lb, 0, 0, 122]⟩) ((w10.alloc (.cells #[.int .u8 (hb.toNat : Int), .int .u8 (lb.toNat : Int), .int .u8 115] 5)).alloc (.cells #[.int .u8 (hb.toNat : Int), .int .u8 (lb.toNat : Int), .int .u8 0, .int .u8 0, .int .u8 122] 5)).drew := by rw [← hs11]; exact run_conv (laid (w10.alloc (.cells #[.int .u8 (hb.toNat : Int), .int .u8 (lb.toNat : Int), .int .u8 115] 5)).drew [hb, lb, 0, 0, 122]) (some ⟨(w10.alloc (.cells #[.int .u8 (hb.toNat : Int), .int .u8 (lb.toNat : Int), .int .u8 115] 5)).heap.size, 0, none⟩) 5 [hb, lb, 0, 0, 122] (laid_rd (w10.alloc (.cells #[.int .u8 (hb.toNat : Int), .int .u8 (lb.toNat : Int), .int .u8 115] 5)).drew _)
      have FI := Lib.hid (show Below w.heap.size w ((w10.alloc (.cells #[.int .u8 (hb.toNat : Int), .int .u8 (lb.toNat : Int), .int .u8 115] 5)).alloc (.cells #[.int .u8 (hb.toNat : Int), .int .u8 (lb.toNat : Int), .int .u8 0, .int .u8 0, .int .u8 122] 5)).drew from ((h10.bel.trans (be11.mono h10.bel.size)).trans (be12.mono (Nat.le_trans h10.bel.size be11.size))).trans ⟨rfl, rfl, rfl, Nat.le_refl _, fun _ _ => rfl⟩)
      have NM := fun v => num_calls 0 v
      have HSV : Aside (∀ v, Below w10.heap.size w10 v → (fun v => (v.cell? ⟨g6, o6, none⟩ = some (.int .i64 3) ∧ v.cell? ⟨g7, o7, none⟩ = some (.slice B7 3 d7) ∧ v.cell? ⟨g10, o10, none⟩ = some (.slice B10 5 d10)) ∧ (convert 39 9 (.slice B7 3 d7)).run Try.prog v = .ok (.string ⟨#[hb, lb, 115]⟩) v ∧ (convert 39 9 (.slice B10 5 d10)).run Try.prog v = .ok (.string ⟨#[hb, lb, 0, 0, 122]⟩) v) v) := fun v hv =>
        ⟨⟨(hv.cell (World.block_lt_of_cell? w10 _ m6)).trans m6, (hv.cell (World.block_lt_of_cell? w10 _ m7)).trans m7, (hv.cell (World.block_lt_of_cell? w10 _ m10)).trans m10⟩, run_conv v B7 d7 [hb, lb, 115] (rd7.below hv), run_conv v B10 d10 [hb, lb, 0, 0, 122] (rd10.below hv)⟩
      have HS10 := Lib.hid (HSV.out w10.drew ⟨rfl, rfl, rfl, Nat.le_refl _, fun _ _ => rfl⟩)
      have HS11 := Lib.hid (HSV.out (w10.alloc (.cells #[.int .u8 (hb.toNat : Int), .int .u8 (lb.toNat : Int), .int .u8 115] 5)).drew be11d)
      have HS12 := Lib.hid (HSV.out ((w10.alloc (.cells #[.int .u8 (hb.toNat : Int), .int .u8 (lb.toNat : Int), .int .u8 115] 5)).alloc (.cells #[.int .u8 (hb.toNat : Int), .int .u8 (lb.toNat : Int), .int .u8 0, .int .u8 0, .int .u8 122] 5)).drew (be11.trans (be12d.mono be11.size)))
      clear OC h10 K10 row10 rd7 rd10 be11 be12 be11d be12d HK8 HK9 HN7 HS1 k9 hs11 HSV m7b m10b m10c q7 q7b q10b q10c m6 m7 m10
      have hwb : IntKind.u8.wrap (hb.toNat : Int) = (hb.toNat : Int) := by rw [IntKind.wrap_u8]; have := hb.toNat_lt; omega
      have hwl : IntKind.u8.wrap (lb.toNat : Int) = (lb.toNat : Int) := by rw [IntKind.wrap_u8]; have := lb.toNat_lt; omega
      go_wp2_with fail
      go_region_held (fun v => (v.cell? ⟨g6, o6, none⟩ = some (.int .i64 3) ∧ v.cell? ⟨g7, o7, none⟩ = some (.slice B7 3 d7) ∧ v.cell? ⟨g10, o10, none⟩ = some (.slice B10 5 d10)) ∧ (convert 39 9 (.slice B7 3 d7)).run Try.prog v = .ok (.string ⟨#[hb, lb, 115]⟩) v ∧ (convert 39 9 (.slice B10 5 d10)).run Try.prog v = .ok (.string ⟨#[hb, lb, 0, 0, 122]⟩) v) (first | exact HS10.out | exact HS11.out | exact HS12.out)
        (first | (go_at_call 20; (with_reducible refine (NM _).mono ?_); rintro e w13 ⟨rfl, hv⟩; obtain rfl := hv.symm))
      all_goals
        go_wp2
        go_ret
        exact ⟨rfl, FI.out⟩
set_option maxRecDepth 20000 in
set_option maxHeartbeats 2000000 in
/-- outside the bounds -/
theorem ArqResets_far (a0 a1 : Int) (h : ¬ (0 ≤ a0 ∧ a0 ≤ 10 ∧ 2 ≤ a1 ∧ a1 ≤ 32768)) (w : World) :
    Calls Try.prog 14 #[.int .i64 a0, .int .i64 a1] w fun e w' => e = .returned (.bool true) ∧ Below w.heap.size w w' := by
  have key : a0 < 0 ∨ (¬ a0 < 0 ∧ 10 < a0) ∨ (¬ a0 < 0 ∧ ¬ 10 < a0 ∧ a1 < 2) ∨ (¬ a0 < 0 ∧ ¬ 10 < a0 ∧ ¬ a1 < 2 ∧ 32768 < a1) := by omega
  clear h
  rcases key with g1 | ⟨g1, g2⟩ | ⟨g1, g2, g3⟩ | ⟨g1, g2, g3, g4⟩
  all_goals
    go_enter Try.func14, Try.ntmps14
    go_wp2_with fail
    refine (alive_calls w).mono ?_
    rintro e V ⟨rfl, hb⟩
    go_wp2
    go_ret
    exact ⟨rfl, hb⟩
theorem ArqResets_walk (a0 a1 : Int) (w0 : (Lit.int .i64 a0).wf = true) (w1 : (Lit.int .i64 a1).wf = true) (w : World) :
    Calls Try.prog 14 #[.int .i64 a0, .int .i64 a1] w fun e w' => e = .returned (.bool true) ∧ Below w.heap.size w w' := by
  by_cases h : 0 ≤ a0 ∧ a0 ≤ 10 ∧ 2 ≤ a1 ∧ a1 ≤ 32768
  · obtain ⟨h1, h2, h3, h4⟩ := h
    obtain ⟨n, rfl⟩ : ∃ n : Nat, a0 = n := ⟨a0.toNat, by omega⟩
    obtain ⟨t, rfl⟩ : ∃ n : Nat, a1 = n := ⟨a1.toNat, by omega⟩
    exact ArqResets_main n t (by omega) (by omega) (by omega) w
  · exact ArqResets_far a0 a1 h w
end
end Go.Proofs.Ytdidmpimlodffaa

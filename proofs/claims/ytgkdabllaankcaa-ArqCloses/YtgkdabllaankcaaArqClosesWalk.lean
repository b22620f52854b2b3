/- The law ArqCloses, walked. No condition. -/
import Derived.Test.YtgkdabllaankcaaCloseStart
import Derived.Deep.LoopGhost
import Derived.Lib.SlBytesConst
namespace Go.Proofs.Ytgkdabllaankcaa
open Go.RowKit
set_option linter.unusedVariables false

theorem i64_and1 (x : Int) : bits .and .i64 x 1 = x % 2 := by
  rw [and_key, show ((1 : Int) % ((2 ^ 64 : Nat) : Int)).toNat = 2 ^ 1 - 1 by decide, Nat.and_two_pow_sub_one_eq_mod, IntKind.wrap_i64]
  omega
theorem clo_shape : (upS (shapeC 128 4 30)).lg.W = 4 ∧ (upS (shapeC 128 4 30)).lg.Q = 30 ∧ (upS (shapeC 128 4 30)).sz = 50 := by decide +kernel
section
variable {w v v' : World} {H : Nat → Prop}
set_option maxRecDepth 20000 in
set_option maxHeartbeats 4000000 in
theorem ArqCloses_first (n c : Nat) (h0 : n ≤ 20) (h1 : c ≤ 60) (w : World) :
    Calls Try.prog 5 #[.int .i64 (n : Int), .int .i64 (c : Int), .bool false] w fun e w' => e = .returned (.bool true) ∧ Below w.heap.size w w' := by
  have i1 : decide ((n : Int) < 0) = false := decide_eq_false (by omega)
  have i2 : decide ((20 : Int) < (n : Int)) = false := decide_eq_false (by omega)
  have i3 : decide ((c : Int) < 0) = false := decide_eq_false (by omega)
  have i4 : decide ((60 : Int) < (c : Int)) = false := decide_eq_false (by omega)
  have j1 : ¬ (n : Int) < 0 := by omega
  have j2 : ¬ (20 : Int) < (n : Int) := by omega
  have j3 : ¬ (c : Int) < 0 := by omega
  have j4 : ¬ (60 : Int) < (c : Int) := by omega
  obtain ⟨e1, e2, e3⟩ := clo_shape
  have hRest := upS_rest (shapeC 128 4 30)
  have HST := Lib.hid (fun ok => (line_start (n := n) void_nil (by decide : 30 ≤ 30) (by omega) ok).1)
  have HST2 := Lib.hid (fun ok => (line_start (n := n) void_nil (by decide : 30 ≤ 30) (by omega) ok).2)
  have HSR := Lib.hid (sent_room (n := n) 30 (by omega))
  unfold sentP at HST HST2 HSR
  have UC := fun (v : World) (hv : Below w.heap.size w v) => up_calls (shapeC 128 4 30) hv
  unfold cfv cfc shapeC at UC
  have HU := Lib.hid UC
  clear UC
  go_enter Try.func5, Try.ntmps5
  go_wp2_with fail
  refine (alive_calls w).mono ?_
  rintro e V ⟨rfl, hb⟩
  have HB := Lib.hid hb
  clear hb
  have SC := shape_calls 128 4 30 V
  unfold cfv cfc shapeC at SC
  go_wp2_with fail
  refine SC.mono ?_
  rintro e w1 ⟨rfl, be1⟩
  have HB1 := Lib.hid (HB.out.trans (be1.mono HB.out.size))
  clear SC HB be1
  go_wp2_with fail
  refine (HU.out _ (HB1.out.alloc HB1.out.size _)).mono ?_
  rintro e w2 ⟨P, b, rfl, o⟩
  change PrOne _ w w2 P b (upP (shapeC 128 4 30)) at o
  clear HU HB1
  have H0 : Aside (PrOne (fun _ => False) w w2 P b ((upP (shapeC 128 4 30)).setA false (sentS (upS (shapeC 128 4 30)) (wins 0)))) := by
    rw [show wins 0 = [] from rfl, sentS_nil hRest, show (upP (shapeC 128 4 30)).setA false (upS (shapeC 128 4 30)) = upP (shapeC 128 4 30) from Pr.setA_self (upP (shapeC 128 4 30)) false]
    exact o
  clear o
  generalize upP (shapeC 128 4 30) = p0 at *
  generalize upS (shapeC 128 4 30) = s at *
  have hQ1 : 1 ≤ s.lg.Q := by omega
  go_wp2_with fail
  go_loopg [10] n (fun kx s13 wr => ∃ k : Nat, s13 = .int .i64 (k : Int) ∧ k ≤ n ∧ n - k ≤ kx ∧ Aside (PrOne (fun _ => False) w wr P b (p0.setA false (sentS s (wins k)))))
  case atStart => exact ⟨0, rfl, by omega, by omega, H0⟩
  case round =>
    clear H0
    obtain ⟨k, rfl, hk, hkx, HO⟩ := hrel
    by_cases hkn : k < n
    · have g0 : (k : Int) < (n : Int) := by omega
      have h := HO.out
      have k0 : wr.cell? ⟨P, 0, none⟩ = some (.pointer (some ⟨b false, 0, none⟩)) := h.ptr false
      have h' := h.beside (laid_below wr [UInt8.ofNat k])
      have st := sentS_give hRest hQ1 (L := wins k) (x := [UInt8.ofNat k]) (by rw [wins_len, e1, e2]; omega) (by rw [e3]; show 1 ≤ 50; decide)
      rw [← wins_next] at st
      have SN := h'.send false (by rw [Pr.setA_a, sentS_os, wins_len]; show min _ _ + (s.lg.W - _) ≤ _; omega) (by rw [Pr.setA_a]; show (wins _).length ≤ _; rw [wins_len]; omega) (some ⟨wr.heap.size, 0, none⟩) 1 [UInt8.ofNat k] (laid_rd wr _) (by show 1 ≤ 1048576; decide)
      rw [Pr.setA_a, st.1, st.2, Pr.setA_twice, laid_byte wr (by omega)] at SN
      clear h h' st HO
      go_wp2_with fail
      refine SN.mono ?_
      rintro e w3 ⟨rfl, h', -, -⟩
      have HR : Aside (PrOne (fun _ => False) w w3 P b (p0.setA false (sentS s (wins (k + 1))))) := h'
      clear SN h'
      go_wp2
      go_roundg (n - (k + 1))
      case measure => omega
      case rel => exact ⟨k + 1, by go_num, by omega, Nat.le_refl _, HR⟩
    · have hkE : k = n := by omega
      subst hkE
      have g0 : ¬ (k : Int) < (k : Int) := by omega
      have h := HO.out
      clear HO
      have okL : (sentS s (wins k)).Ok := by have := h.ok false; rw [Pr.setA_a] at this; exact this
      have HL0 : Aside (LineC k (p0.setA false (sentS s (wins k))).collect) := by
        obtain ⟨h3, h4⟩ := HST2.out okL
        refine ⟨⟨0, 0, HST.out okL⟩, fun i => ?_⟩
        cases i
        · rw [h3]; intro y hy; obtain ⟨i, -, -, rfl⟩ := mapR_mem hy; exact void_nil.notI 0 _ false i
        · rw [h4]; exact fun y hy => (List.not_mem_nil hy).elim
      have CC := collect_calls h HSR.out
      generalize (p0.setA false (sentS s (wins k))).collect = q at *
      clear h okL HST HST2 HSR hRest e1 e2 e3 hQ1
      go_wp2_with fail
      refine CC.mono ?_
      rintro e w3 ⟨rfl, h3, -⟩
      have H3 : Aside (PrOne (fun _ => False) w w3 P b q) := h3
      clear CC h3
      go_wp2_with fail
      go_loopg [11] c (fun kx s8 wr => ∃ (j : Nat) (q : Pr), s8 = .int .i64 (j : Int) ∧ j ≤ c ∧ c - j ≤ kx ∧ Aside (PrOne (fun _ => False) w wr P b q ∧ LineC k q))
      case atStart => exact ⟨0, q, rfl, by omega, by omega, H3.out, HL0.out⟩
      case round =>
        clear H3 HL0
        clear q
        obtain ⟨j, q, rfl, hj, hjx, HO⟩ := hrel
        by_cases hjc : j < c
        · have g1 : (j : Int) < (c : Int) := by omega
          obtain ⟨h, hl⟩ := HO.out
          have hand := i64_and1 (j : Int)
          have HR := Lib.hid (hl.room (by omega))
          have HN := Lib.hid (fun i => hl.carry (by omega) i)
          clear hl HO
          rcases (show (j : Int) % 2 = 0 ∨ (j : Int) % 2 = 1 by omega) with hy | hy
          · rw [hy] at hand
            have CA := carry_zero h false (HR.out false)
            clear h HR hy
            go_wp2_with fail
            refine CA.mono ?_
            rintro e w5 ⟨rfl, h5, -⟩
            have HS : Aside (PrOne (fun _ => False) w w5 P b (q.carry false false) ∧ LineC k (q.carry false false)) := ⟨h5, HN.out false⟩
            clear CA h5 HN
            go_wp2
            go_roundg (c - (j + 1))
            case measure => omega
            case rel => exact ⟨j + 1, _, by go_num, by omega, Nat.le_refl _, HS⟩
          · rw [hy] at hand
            have CA := carry_one h false (HR.out true)
            clear h HR hy
            go_wp2_with fail
            refine CA.mono ?_
            rintro e w5 ⟨rfl, h5, -⟩
            have HS : Aside (PrOne (fun _ => False) w w5 P b (q.carry true false) ∧ LineC k (q.carry true false)) := ⟨h5, HN.out true⟩
            clear CA h5 HN
            go_wp2
            go_roundg (c - (j + 1))
            case measure => omega
            case rel => exact ⟨j + 1, _, by go_num, by omega, Nat.le_refl _, HS⟩
        · have hjE : j = c := by omega
          subst hjE
          have g1 : ¬ (j : Int) < (j : Int) := by omega
          obtain ⟨h, hl⟩ := HO.out
          have k0 : wr.cell? ⟨P, 0, none⟩ = some (.pointer (some ⟨b false, 0, none⟩)) := h.ptr false
          obtain ⟨a1, a2, a3, a4, a5, a6, a7, a8, EN⟩ := hl.closes h0 false
          obtain ⟨J, FL, ⟨u, hu, hJ⟩, hEnd⟩ := EN.ex
          have C1 := h.close false a1 a2
          rw [a3] at C1
          have HA := Lib.hid (And.intro a4 (And.intro a5 (And.intro a6 (And.intro a7 a8))))
          have HJ := Lib.hid (And.intro FL (And.intro hu (And.intro (Flow.begin hJ) hEnd)))
          clear h hl HO a1 a2 a3 a4 a5 a6 a7 a8 EN FL hu hJ hEnd
          go_wp2_with fail
          refine C1.mono ?_
          rintro e w5 ⟨rfl, h5, -, -⟩
          have k1 : w5.cell? ⟨P, 0, none⟩ = some (.pointer (some ⟨b false, 0, none⟩)) := h5.ptr false
          have C2 := h5.close false (by rw [Pr.setA_a]; exact HA.out.1) (by rw [Pr.setA_a]; exact HA.out.2.1)
          rw [Pr.setA_a, HA.out.2.2.2.1, HA.out.2.2.1, Pr.setA_twice] at C2
          clear C1 h5 k0
          go_wp2_with fail
          refine C2.mono ?_
          rintro e w6 ⟨rfl, h6, -, -⟩
          have CC := collect_calls h6 HA.out.2.2.2.2
          clear C2 h6 k1 HA
          generalize (q.setA false (q.a false).close).collect = r at *
          go_wp2_with fail
          refine CC.mono ?_
          rintro e w7 ⟨rfl, h7, -⟩
          have H7 : Aside (PrOne (fun _ => False) w w7 P b r ∧ Rounds J u 0 r) := ⟨h7, HJ.out.2.2.1⟩
          have HJ' := Lib.hid (And.intro HJ.out.1 (And.intro HJ.out.2.1 HJ.out.2.2.2))
          clear CC h7 HJ
          go_wp2_with fail
          go_loopg [15] 200 (fun kx s9 wr => ∃ (i : Nat) (r : Pr), s9 = .int .i64 (i : Int) ∧ i ≤ 200 ∧ 200 - i ≤ kx ∧ Aside (PrOne (fun _ => False) w wr P b r ∧ Rounds J u i r))
          case atStart => exact ⟨0, r, rfl, by omega, by omega, H7⟩
          case round =>
            clear H7
            clear r
            obtain ⟨i, r, rfl, hi, hix, HO⟩ := hrel
            by_cases hi2 : i < 200
            · have g2 : (i : Int) < 200 := by omega
              obtain ⟨h, hr⟩ := HO.out
              obtain ⟨r1, r2⟩ := hr.room HJ'.out.1
              have HN := Lib.hid (And.intro r2 (HJ'.out.1.round hr))
              have CA := carry_zero h false r1
              clear h hr r1 r2 HO
              go_wp2_with fail
              refine CA.mono ?_
              rintro e w8 ⟨rfl, h8, -⟩
              have CB := carry_one h8 false HN.out.1
              clear CA h8
              go_wp2_with fail
              refine CB.mono ?_
              rintro e w9 ⟨rfl, h9, -⟩
              have HS : Aside (PrOne (fun _ => False) w w9 P b ((r.carry false false).carry true false) ∧ Rounds J u (i + 1) ((r.carry false false).carry true false)) := ⟨h9, HN.out.2⟩
              clear CB h9 HN
              go_wp2
              go_roundg (200 - (i + 1))
              case measure => omega
              case rel => exact ⟨i + 1, _, by go_num, by omega, Nat.le_refl _, HS⟩
            · have hiE : i = 200 := by omega
              subst hiE
              have g2 : ¬ ((200 : Nat) : Int) < 200 := by omega
              obtain ⟨h, hr⟩ := HO.out
              obtain ⟨u', hJ, hw⟩ := HJ'.out.1.done hr HJ'.out.2.1
              obtain ⟨f1, f2, f3, f4, f5⟩ := HJ'.out.2.2 u' r hJ hw
              rw [wins_len] at f3 f4
              have ks : wr.cell? ⟨P, 0, none⟩ = some (.pointer (some ⟨b false, 0, none⟩)) := h.ptr false
              have CN := h.counts false
              have HF := Lib.hid (And.intro h (And.intro f1 f2))
              rw [f3] at CN
              have f6 : ((r.a false).ak : Int) + ((r.a false).lo : Int) = (k : Int) := by omega
              have f7 : ((r.a false).ak : Int) ≤ ((r.heard true).length : Int) := by omega
              have hb0 : ((r.a false).ak : Int) ≤ 20 ∧ ((r.a false).lo : Int) ≤ 20 := by omega
              clear f3 f4 f5 hJ hw h hr HO HJ' f1 f2
              generalize (r.a false).ak = ak at *
              generalize (r.a false).lo = lo at *
              go_wp2_with fail
              refine CN.mono ?_
              rintro e w8 ⟨rfl, nq, rfl⟩
              have h := HF.out.1.drewN nq
              have S0 := h.state false
              have S1 := h.state true
              rw [HF.out.2.1] at S0
              rw [HF.out.2.2] at S1
              have k5 : (wr.drewN nq).cell? ⟨P, 0, none⟩ = some (.pointer (some ⟨b false, 0, none⟩)) := h.ptr false
              have k6 : (wr.drewN nq).cell? ⟨P, 1, none⟩ = some (.pointer (some ⟨b true, 0, none⟩)) := h.ptr true
              obtain ⟨B, d, k7⟩ := h.cHeard true
              have k7 : (wr.drewN nq).cell? ⟨P, 5, none⟩ = some (.slice B (r.heard true).length d) := k7
              have FI := Lib.hid h.bel
              have NM := fun x v => num_calls x v
              generalize (r.heard true).length = hl at *
              clear CN h HF ks
              generalize wr.drewN nq = W at *
              go_wp2_with fail
              refine (NM 0 _).mono ?_
              rintro e w6 ⟨rfl, hv⟩
              obtain rfl := hv.symm
              go_wp2_with fail
              refine (NM 7 _).mono ?_
              rintro e w6 ⟨rfl, hv⟩
              obtain rfl := hv.symm
              go_wp2_with fail
              refine S0.mono ?_
              rintro e w6 ⟨rfl, hv⟩
              obtain rfl := hv.symm
              go_wp2_with fail
              refine S1.mono ?_
              rintro e w6 ⟨rfl, hv⟩
              obtain rfl := hv.symm
              go_wp2
              go_ret
              exact ⟨rfl, FI.out⟩
set_option maxRecDepth 20000 in
set_option maxHeartbeats 4000000 in
theorem ArqCloses_second (n c : Nat) (h0 : n ≤ 20) (h1 : c ≤ 60) (w : World) :
    Calls Try.prog 5 #[.int .i64 (n : Int), .int .i64 (c : Int), .bool true] w fun e w' => e = .returned (.bool true) ∧ Below w.heap.size w w' := by
  have i1 : decide ((n : Int) < 0) = false := decide_eq_false (by omega)
  have i2 : decide ((20 : Int) < (n : Int)) = false := decide_eq_false (by omega)
  have i3 : decide ((c : Int) < 0) = false := decide_eq_false (by omega)
  have i4 : decide ((60 : Int) < (c : Int)) = false := decide_eq_false (by omega)
  have j1 : ¬ (n : Int) < 0 := by omega
  have j2 : ¬ (20 : Int) < (n : Int) := by omega
  have j3 : ¬ (c : Int) < 0 := by omega
  have j4 : ¬ (60 : Int) < (c : Int) := by omega
  obtain ⟨e1, e2, e3⟩ := clo_shape
  have hRest := upS_rest (shapeC 128 4 30)
  have HST := Lib.hid (fun ok => (line_start (n := n) void_nil (by decide : 30 ≤ 30) (by omega) ok).1)
  have HST2 := Lib.hid (fun ok => (line_start (n := n) void_nil (by decide : 30 ≤ 30) (by omega) ok).2)
  have HSR := Lib.hid (sent_room (n := n) 30 (by omega))
  unfold sentP at HST HST2 HSR
  have UC := fun (v : World) (hv : Below w.heap.size w v) => up_calls (shapeC 128 4 30) hv
  unfold cfv cfc shapeC at UC
  have HU := Lib.hid UC
  clear UC
  go_enter Try.func5, Try.ntmps5
  go_wp2_with fail
  refine (alive_calls w).mono ?_
  rintro e V ⟨rfl, hb⟩
  have HB := Lib.hid hb
  clear hb
  have SC := shape_calls 128 4 30 V
  unfold cfv cfc shapeC at SC
  go_wp2_with fail
  refine SC.mono ?_
  rintro e w1 ⟨rfl, be1⟩
  have HB1 := Lib.hid (HB.out.trans (be1.mono HB.out.size))
  clear SC HB be1
  go_wp2_with fail
  refine (HU.out _ (HB1.out.alloc HB1.out.size _)).mono ?_
  rintro e w2 ⟨P, b, rfl, o⟩
  change PrOne _ w w2 P b (upP (shapeC 128 4 30)) at o
  clear HU HB1
  have H0 : Aside (PrOne (fun _ => False) w w2 P b ((upP (shapeC 128 4 30)).setA false (sentS (upS (shapeC 128 4 30)) (wins 0)))) := by
    rw [show wins 0 = [] from rfl, sentS_nil hRest, show (upP (shapeC 128 4 30)).setA false (upS (shapeC 128 4 30)) = upP (shapeC 128 4 30) from Pr.setA_self (upP (shapeC 128 4 30)) false]
    exact o
  clear o
  generalize upP (shapeC 128 4 30) = p0 at *
  generalize upS (shapeC 128 4 30) = s at *
  have hQ1 : 1 ≤ s.lg.Q := by omega
  go_wp2_with fail
  go_loopg [10] n (fun kx s13 wr => ∃ k : Nat, s13 = .int .i64 (k : Int) ∧ k ≤ n ∧ n - k ≤ kx ∧ Aside (PrOne (fun _ => False) w wr P b (p0.setA false (sentS s (wins k)))))
  case atStart => exact ⟨0, rfl, by omega, by omega, H0⟩
  case round =>
    clear H0
    obtain ⟨k, rfl, hk, hkx, HO⟩ := hrel
    by_cases hkn : k < n
    · have g0 : (k : Int) < (n : Int) := by omega
      have h := HO.out
      have k0 : wr.cell? ⟨P, 0, none⟩ = some (.pointer (some ⟨b false, 0, none⟩)) := h.ptr false
      have h' := h.beside (laid_below wr [UInt8.ofNat k])
      have st := sentS_give hRest hQ1 (L := wins k) (x := [UInt8.ofNat k]) (by rw [wins_len, e1, e2]; omega) (by rw [e3]; show 1 ≤ 50; decide)
      rw [← wins_next] at st
      have SN := h'.send false (by rw [Pr.setA_a, sentS_os, wins_len]; show min _ _ + (s.lg.W - _) ≤ _; omega) (by rw [Pr.setA_a]; show (wins _).length ≤ _; rw [wins_len]; omega) (some ⟨wr.heap.size, 0, none⟩) 1 [UInt8.ofNat k] (laid_rd wr _) (by show 1 ≤ 1048576; decide)
      rw [Pr.setA_a, st.1, st.2, Pr.setA_twice, laid_byte wr (by omega)] at SN
      clear h h' st HO
      go_wp2_with fail
      refine SN.mono ?_
      rintro e w3 ⟨rfl, h', -, -⟩
      have HR : Aside (PrOne (fun _ => False) w w3 P b (p0.setA false (sentS s (wins (k + 1))))) := h'
      clear SN h'
      go_wp2
      go_roundg (n - (k + 1))
      case measure => omega
      case rel => exact ⟨k + 1, by go_num, by omega, Nat.le_refl _, HR⟩
    · have hkE : k = n := by omega
      subst hkE
      have g0 : ¬ (k : Int) < (k : Int) := by omega
      have h := HO.out
      clear HO
      have okL : (sentS s (wins k)).Ok := by have := h.ok false; rw [Pr.setA_a] at this; exact this
      have HL0 : Aside (LineC k (p0.setA false (sentS s (wins k))).collect) := by
        obtain ⟨h3, h4⟩ := HST2.out okL
        refine ⟨⟨0, 0, HST.out okL⟩, fun i => ?_⟩
        cases i
        · rw [h3]; intro y hy; obtain ⟨i, -, -, rfl⟩ := mapR_mem hy; exact void_nil.notI 0 _ false i
        · rw [h4]; exact fun y hy => (List.not_mem_nil hy).elim
      have CC := collect_calls h HSR.out
      generalize (p0.setA false (sentS s (wins k))).collect = q at *
      clear h okL HST HST2 HSR hRest e1 e2 e3 hQ1
      go_wp2_with fail
      refine CC.mono ?_
      rintro e w3 ⟨rfl, h3, -⟩
      have H3 : Aside (PrOne (fun _ => False) w w3 P b q) := h3
      clear CC h3
      go_wp2_with fail
      go_loopg [11] c (fun kx s8 wr => ∃ (j : Nat) (q : Pr), s8 = .int .i64 (j : Int) ∧ j ≤ c ∧ c - j ≤ kx ∧ Aside (PrOne (fun _ => False) w wr P b q ∧ LineC k q))
      case atStart => exact ⟨0, q, rfl, by omega, by omega, H3.out, HL0.out⟩
      case round =>
        clear H3 HL0
        clear q
        obtain ⟨j, q, rfl, hj, hjx, HO⟩ := hrel
        by_cases hjc : j < c
        · have g1 : (j : Int) < (c : Int) := by omega
          obtain ⟨h, hl⟩ := HO.out
          have hand := i64_and1 (j : Int)
          have HR := Lib.hid (hl.room (by omega))
          have HN := Lib.hid (fun i => hl.carry (by omega) i)
          clear hl HO
          rcases (show (j : Int) % 2 = 0 ∨ (j : Int) % 2 = 1 by omega) with hy | hy
          · rw [hy] at hand
            have CA := carry_zero h false (HR.out false)
            clear h HR hy
            go_wp2_with fail
            refine CA.mono ?_
            rintro e w5 ⟨rfl, h5, -⟩
            have HS : Aside (PrOne (fun _ => False) w w5 P b (q.carry false false) ∧ LineC k (q.carry false false)) := ⟨h5, HN.out false⟩
            clear CA h5 HN
            go_wp2
            go_roundg (c - (j + 1))
            case measure => omega
            case rel => exact ⟨j + 1, _, by go_num, by omega, Nat.le_refl _, HS⟩
          · rw [hy] at hand
            have CA := carry_one h false (HR.out true)
            clear h HR hy
            go_wp2_with fail
            refine CA.mono ?_
            rintro e w5 ⟨rfl, h5, -⟩
            have HS : Aside (PrOne (fun _ => False) w w5 P b (q.carry true false) ∧ LineC k (q.carry true false)) := ⟨h5, HN.out true⟩
            clear CA h5 HN
            go_wp2
            go_roundg (c - (j + 1))
            case measure => omega
            case rel => exact ⟨j + 1, _, by go_num, by omega, Nat.le_refl _, HS⟩
        · have hjE : j = c := by omega
          subst hjE
          have g1 : ¬ (j : Int) < (j : Int) := by omega
          obtain ⟨h, hl⟩ := HO.out
          have k0 : wr.cell? ⟨P, 1, none⟩ = some (.pointer (some ⟨b true, 0, none⟩)) := h.ptr true
          obtain ⟨a1, a2, a3, a4, a5, a6, a7, a8, EN⟩ := hl.closes h0 true
          obtain ⟨J, FL, ⟨u, hu, hJ⟩, hEnd⟩ := EN.ex
          have C1 := h.close true a1 a2
          rw [a3] at C1
          have HA := Lib.hid (And.intro a4 (And.intro a5 (And.intro a6 (And.intro a7 a8))))
          have HJ := Lib.hid (And.intro FL (And.intro hu (And.intro (Flow.begin hJ) hEnd)))
          clear h hl HO a1 a2 a3 a4 a5 a6 a7 a8 EN FL hu hJ hEnd
          go_wp2_with fail
          refine C1.mono ?_
          rintro e w5 ⟨rfl, h5, -, -⟩
          have k1 : w5.cell? ⟨P, 1, none⟩ = some (.pointer (some ⟨b true, 0, none⟩)) := h5.ptr true
          have C2 := h5.close true (by rw [Pr.setA_a]; exact HA.out.1) (by rw [Pr.setA_a]; exact HA.out.2.1)
          rw [Pr.setA_a, HA.out.2.2.2.1, HA.out.2.2.1, Pr.setA_twice] at C2
          clear C1 h5 k0
          go_wp2_with fail
          refine C2.mono ?_
          rintro e w6 ⟨rfl, h6, -, -⟩
          have CC := collect_calls h6 HA.out.2.2.2.2
          clear C2 h6 k1 HA
          generalize (q.setA true (q.a true).close).collect = r at *
          go_wp2_with fail
          refine CC.mono ?_
          rintro e w7 ⟨rfl, h7, -⟩
          have H7 : Aside (PrOne (fun _ => False) w w7 P b r ∧ Rounds J u 0 r) := ⟨h7, HJ.out.2.2.1⟩
          have HJ' := Lib.hid (And.intro HJ.out.1 (And.intro HJ.out.2.1 HJ.out.2.2.2))
          clear CC h7 HJ
          go_wp2_with fail
          go_loopg [15] 200 (fun kx s9 wr => ∃ (i : Nat) (r : Pr), s9 = .int .i64 (i : Int) ∧ i ≤ 200 ∧ 200 - i ≤ kx ∧ Aside (PrOne (fun _ => False) w wr P b r ∧ Rounds J u i r))
          case atStart => exact ⟨0, r, rfl, by omega, by omega, H7⟩
          case round =>
            clear H7
            clear r
            obtain ⟨i, r, rfl, hi, hix, HO⟩ := hrel
            by_cases hi2 : i < 200
            · have g2 : (i : Int) < 200 := by omega
              obtain ⟨h, hr⟩ := HO.out
              obtain ⟨r1, r2⟩ := hr.room HJ'.out.1
              have HN := Lib.hid (And.intro r2 (HJ'.out.1.round hr))
              have CA := carry_zero h false r1
              clear h hr r1 r2 HO
              go_wp2_with fail
              refine CA.mono ?_
              rintro e w8 ⟨rfl, h8, -⟩
              have CB := carry_one h8 false HN.out.1
              clear CA h8
              go_wp2_with fail
              refine CB.mono ?_
              rintro e w9 ⟨rfl, h9, -⟩
              have HS : Aside (PrOne (fun _ => False) w w9 P b ((r.carry false false).carry true false) ∧ Rounds J u (i + 1) ((r.carry false false).carry true false)) := ⟨h9, HN.out.2⟩
              clear CB h9 HN
              go_wp2
              go_roundg (200 - (i + 1))
              case measure => omega
              case rel => exact ⟨i + 1, _, by go_num, by omega, Nat.le_refl _, HS⟩
            · have hiE : i = 200 := by omega
              subst hiE
              have g2 : ¬ ((200 : Nat) : Int) < 200 := by omega
              obtain ⟨h, hr⟩ := HO.out
              obtain ⟨u', hJ, hw⟩ := HJ'.out.1.done hr HJ'.out.2.1
              obtain ⟨f1, f2, f3, f4, f5⟩ := HJ'.out.2.2 u' r hJ hw
              rw [wins_len] at f3 f4
              have ks : wr.cell? ⟨P, 0, none⟩ = some (.pointer (some ⟨b false, 0, none⟩)) := h.ptr false
              have CN := h.counts false
              have HF := Lib.hid (And.intro h (And.intro f1 f2))
              rw [f3] at CN
              have f6 : ((r.a false).ak : Int) + ((r.a false).lo : Int) = (k : Int) := by omega
              have f7 : ((r.a false).ak : Int) ≤ ((r.heard true).length : Int) := by omega
              have hb0 : ((r.a false).ak : Int) ≤ 20 ∧ ((r.a false).lo : Int) ≤ 20 := by omega
              clear f3 f4 f5 hJ hw h hr HO HJ' f1 f2
              generalize (r.a false).ak = ak at *
              generalize (r.a false).lo = lo at *
              go_wp2_with fail
              refine CN.mono ?_
              rintro e w8 ⟨rfl, nq, rfl⟩
              have h := HF.out.1.drewN nq
              have S0 := h.state false
              have S1 := h.state true
              rw [HF.out.2.1] at S0
              rw [HF.out.2.2] at S1
              have k5 : (wr.drewN nq).cell? ⟨P, 0, none⟩ = some (.pointer (some ⟨b false, 0, none⟩)) := h.ptr false
              have k6 : (wr.drewN nq).cell? ⟨P, 1, none⟩ = some (.pointer (some ⟨b true, 0, none⟩)) := h.ptr true
              obtain ⟨B, d, k7⟩ := h.cHeard true
              have k7 : (wr.drewN nq).cell? ⟨P, 5, none⟩ = some (.slice B (r.heard true).length d) := k7
              have FI := Lib.hid h.bel
              have NM := fun x v => num_calls x v
              generalize (r.heard true).length = hl at *
              clear CN h HF ks
              generalize wr.drewN nq = W at *
              go_wp2_with fail
              refine (NM 0 _).mono ?_
              rintro e w6 ⟨rfl, hv⟩
              obtain rfl := hv.symm
              go_wp2_with fail
              refine (NM 7 _).mono ?_
              rintro e w6 ⟨rfl, hv⟩
              obtain rfl := hv.symm
              go_wp2_with fail
              refine S0.mono ?_
              rintro e w6 ⟨rfl, hv⟩
              obtain rfl := hv.symm
              go_wp2_with fail
              refine S1.mono ?_
              rintro e w6 ⟨rfl, hv⟩
              obtain rfl := hv.symm
              go_wp2
              go_ret
              exact ⟨rfl, FI.out⟩
set_option maxRecDepth 20000 in
set_option maxHeartbeats 2000000 in
/-- outside the bounds -/
theorem ArqCloses_far (a0 a1 : Int) (q : Bool) (h : ¬ (0 ≤ a0 ∧ a0 ≤ 20 ∧ 0 ≤ a1 ∧ a1 ≤ 60)) (w : World) :
    Calls Try.prog 5 #[.int .i64 a0, .int .i64 a1, .bool q] w fun e w' => e = .returned (.bool true) ∧ Below w.heap.size w w' := by
  have key : a0 < 0 ∨ (¬ a0 < 0 ∧ 20 < a0) ∨ (¬ a0 < 0 ∧ ¬ 20 < a0 ∧ a1 < 0) ∨ (¬ a0 < 0 ∧ ¬ 20 < a0 ∧ ¬ a1 < 0 ∧ 60 < a1) := by omega
  clear h
  rcases key with g1 | ⟨g1, g2⟩ | ⟨g1, g2, g3⟩ | ⟨g1, g2, g3, g4⟩
  all_goals
    go_enter Try.func5, Try.ntmps5
    go_wp2_with fail
    refine (alive_calls w).mono ?_
    rintro e V ⟨rfl, hb⟩
    go_wp2
    go_ret
    exact ⟨rfl, hb⟩
theorem ArqCloses_walk (a0 a1 : Int) (q : Bool) (w0 : (Lit.int .i64 a0).wf = true) (w1 : (Lit.int .i64 a1).wf = true) (w : World) :
    Calls Try.prog 5 #[.int .i64 a0, .int .i64 a1, .bool q] w fun e w' => e = .returned (.bool true) ∧ Below w.heap.size w w' := by
  by_cases h : 0 ≤ a0 ∧ a0 ≤ 20 ∧ 0 ≤ a1 ∧ a1 ≤ 60
  · obtain ⟨h1, h2, h3, h4⟩ := h
    obtain ⟨n, rfl⟩ : ∃ n : Nat, a0 = n := ⟨a0.toNat, by omega⟩
    obtain ⟨c, rfl⟩ : ∃ n : Nat, a1 = n := ⟨a1.toNat, by omega⟩
    cases q
    · exact ArqCloses_first n c (by omega) (by omega) w
    · exact ArqCloses_second n c (by omega) (by omega) w
  · exact ArqCloses_far a0 a1 q h w
end
end Go.Proofs.Ytgkdabllaankcaa

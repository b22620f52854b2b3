/- The law ArqAgain, walked. No condition. -/
import Derived.Test.YtdidmpimlodffaaAgainPlain
import Derived.Test.YtdidmpimlodffaaSameRows
namespace Go.Proofs.Ytdidmpimlodffaa
open Go.RowKit
set_option linter.unusedVariables false

theorem laid_pair (w : World) {k : Nat} (hk : k < 256) : laid w [UInt8.ofNat k, 7] = w.alloc (.cells #[.int .u8 (k : Int), .int .u8 7] 5) := by
  unfold laid bv
  show w.alloc (.cells #[.int .u8 (((UInt8.ofNat k).toNat : Nat) : Int), .int .u8 7] 5) = _
  rw [UInt8.toNat_ofNat', show k % 2 ^ 8 = k by omega]
theorem laid_rr (w : World) {a : Nat} (ha : a ≤ 16) : laid w [0, 1, 1, UInt8.ofNat (2 * a)] = w.alloc (.cells #[.int .u8 0, .int .u8 1, .int .u8 1, .int .u8 (2 * (a : Int))] 5) := by
  unfold laid bv
  show w.alloc (.cells #[.int .u8 0, .int .u8 1, .int .u8 1, .int .u8 (((UInt8.ofNat (2 * a)).toNat : Nat) : Int)] 5) = _
  rw [UInt8.toNat_ofNat', show (2 * a) % 2 ^ 8 = 2 * a by omega]
  rfl
section
variable {w v v' : World} {H : Nat → Prop}
set_option maxRecDepth 20000 in
set_option maxHeartbeats 12000000 in
theorem ArqAgain_main (n a : Nat) (h1 : n ≤ 16) (h2 : a ≤ n) (w : World) :
    Calls Try.prog 13 #[.int .i64 (n : Int), .int .i64 (a : Int)] w fun e w' => e = .returned (.bool true) ∧ Below w.heap.size w w' := by
  have i1 : decide ((n : Int) < 0) = false := decide_eq_false (by omega)
  have i2 : decide ((16 : Int) < (n : Int)) = false := decide_eq_false (by omega)
  have i3 : decide ((a : Int) < 0) = false := decide_eq_false (by omega)
  have i4 : decide ((n : Int) < (a : Int)) = false := decide_eq_false (by omega)
  have j1 : ¬ (n : Int) < 0 := by omega
  have j2 : ¬ (16 : Int) < (n : Int) := by omega
  have j3 : ¬ (a : Int) < 0 := by omega
  have j4 : ¬ (n : Int) < (a : Int) := by omega
  obtain ⟨e1, e2, e3, e4, e5, e6, e7, e8, e9, e10, e11⟩ := agn_shape
  have hRest := upS_rest (shapeC 128 16 20)
  go_enter Try.func13, Try.ntmps13
  go_wp2_with fail
  refine (alive_calls w).mono ?_
  rintro e V ⟨rfl, hb⟩
  have HB := Lib.hid hb
  clear hb
  have SC := shape_calls 128 16 20 V
  go_wp2_with fail
  refine SC.mono ?_
  rintro e w1 ⟨rfl, be1⟩
  have UP := up_calls (shapeC 128 16 20) (HB.out.trans (be1.mono HB.out.size))
  clear SC HB be1
  go_wp2_with fail
  refine UP.mono ?_
  rintro e w2 ⟨P, b, rfl, o⟩
  have H0 : Aside (PrOne (fun _ => False) w w2 P b ((upP (shapeC 128 16 20)).setA false (sentS (upS (shapeC 128 16 20)) (pws 0)))) := by
    rw [show pws 0 = [] from rfl, sentS_nil hRest, show (upP (shapeC 128 16 20)).setA false (upS (shapeC 128 16 20)) = upP (shapeC 128 16 20) from Pr.setA_self (upP (shapeC 128 16 20)) false]
    exact o
  clear o UP
  generalize upP (shapeC 128 16 20) = p0 at *
  generalize upS (shapeC 128 16 20) = s at *
  have hQ1 : 1 ≤ s.lg.Q := by omega
  go_wp2_with fail
  go_loopg [7] n (fun kx s7 wr => ∃ k : Nat, s7 = .int .i64 (k : Int) ∧ k ≤ n ∧ n - k ≤ kx ∧ Aside (PrOne (fun _ => False) w wr P b (p0.setA false (sentS s (pws k)))))
  case atStart => exact ⟨0, rfl, by omega, by omega, H0⟩
  case round =>
    clear H0
    obtain ⟨k, rfl, hk, hkx, HO⟩ := hrel
    by_cases hkn : k < n
    · have g0 : (k : Int) < (n : Int) := by omega
      have h := HO.out
      have k0 : wr.cell? ⟨P, 0, none⟩ = some (.pointer (some ⟨b false, 0, none⟩)) := h.ptr false
      have h' := h.beside (laid_below wr [UInt8.ofNat k, 7])
      have st := sentS_give hRest hQ1 (L := pws k) (x := [UInt8.ofNat k, 7]) (by rw [pws_len, e1, e2]; omega) (by rw [e3]; show 2 ≤ 50; decide)
      rw [← pws_next] at st
      have SN := h'.send false (by rw [Pr.setA_a, sentS_os, pws_len]; show min _ _ + (s.lg.W - _) ≤ _; omega) (by rw [Pr.setA_a]; show (pws _).length ≤ _; rw [pws_len]; omega) (some ⟨wr.heap.size, 0, none⟩) 2 [UInt8.ofNat k, 7] (laid_rd wr _) (by show 2 ≤ 1048576; decide)
      rw [Pr.setA_a, st.1, st.2, Pr.setA_twice, laid_pair wr (by omega)] at SN
      clear h h' st HO
      go_wp2_with fail
      refine SN.mono ?_
      rintro e w3 ⟨rfl, h', -, -⟩
      have HR : Aside (PrOne (fun _ => False) w w3 P b (p0.setA false (sentS s (pws (k + 1))))) := h'
      clear SN h'
      go_wp2
      go_roundg (n - (k + 1))
      case measure => omega
      case rel => exact ⟨k + 1, by go_num, by omega, Nat.le_refl _, HR⟩
    · have hkE : k = n := by omega
      subst hkE
      have g0 : ¬ (k : Int) < (k : Int) := by omega
      have h := HO.out
      have k0 : wr.cell? ⟨P, 0, none⟩ = some (.pointer (some ⟨b false, 0, none⟩)) := h.ptr false
      clear HO
      have okL : (sentS s (pws k)).Ok := by have := h.ok false; rw [Pr.setA_a] at this; exact this
      obtain ⟨S, s1, s2, s3, s4, s5⟩ := again_all hRest e1 e4 e5 e6 e11 h1 h2 okL
      have HRM := Lib.hid (show (sentS s (pws k)).output.Room from ⟨Nat.zero_le _, by show s.is.length ≤ _; rw [e10]; exact Nat.zero_le _, by show s.od.all ≤ _; rw [e7]; exact Nat.zero_le _, by show (pws k).length ≤ _; rw [pws_len]; omega, by show s.ak ≤ _; rw [e8]; exact Nat.zero_le _, by show s.lo ≤ _; rw [e9]; exact Nat.zero_le _⟩)
      have OC := h.output false
      rw [Pr.setA_a, Pr.setA_twice] at OC
      obtain ⟨LS, hLS⟩ : ∃ LS, (sentS s (pws k)).os = LS := ⟨_, rfl⟩
      rw [hLS] at OC s4 s5
      rw [s5] at OC
      have HS := Lib.hid (And.intro s1 (And.intro s2 (And.intro s3 (And.intro s4 s5))))
      clear h e1 e2 e3 e4 e5 e6 e7 e8 e9 e10 e11 hRest okL hQ1 s1 s2 s3 s4 s5 hLS
      go_wp2_with fail
      refine OC.mono ?_
      rintro e w3 ⟨A, c, G, rfl, row, h3, -, -, -⟩
      have h3 : PrOne (fun k => False ∨ G k) w w3 P b (p0.setA false (sentS s (pws k)).output) := h3
      have k3 : w3.cell? ⟨P, 0, none⟩ = some (.pointer (some ⟨b false, 0, none⟩)) := h3.ptr false
      have IN := (h3.grow (laid_below w3 [0, 1, 1, UInt8.ofNat (2 * a)])).input false (by rw [Pr.setA_a]; exact HRM.out) (some ⟨w3.heap.size, 0, none⟩) 4 [0, 1, 1, UInt8.ofNat (2 * a)] (laid_rd w3 _) (by show 4 ≤ 90000; decide) (Nat.le_refl _) (by decide) (fun i hi => .inr (by injection hi with hi; rw [← hi, laid_size]; exact ⟨Nat.le_refl _, Nat.lt_succ_self _⟩))
      rw [Pr.setA_a, Pr.setA_twice, HS.out.1, laid_rr w3 (by omega)] at IN
      have HK3 := Lib.hid (show Kept (fun k => False ∨ G k) w3 (w3.alloc (.cells #[.int .u8 0, .int .u8 1, .int .u8 1, .int .u8 (2 * (a : Int))] 5)) from Kept.of_below ((Below.refl _ _).alloc (Nat.le_refl _) _))
      have HRW := Lib.hid (row.wide (H := fun k => False ∨ G k) fun _ h => .inr h)
      clear OC h3 k0 HRM row
      have hw2 : wrap64 (2 * (a : Int)) = 2 * (a : Int) := by unfold wrap64; omega
      go_wp2_with fail
      refine IN.mono ?_
      rintro e w5 ⟨rfl, h5, K5, -⟩
      have h5 := h5.less (G := fun k => False ∨ G k) (fun _ h => .inl h)
      have HRW5 := Lib.hid ((HK3.out.trans (K5.less fun _ h => .inl h)).row HRW.out)
      have k5 : w5.cell? ⟨P, 0, none⟩ = some (.pointer (some ⟨b false, 0, none⟩)) := h5.ptr false
      have OC := h5.output false
      rw [Pr.setA_a, Pr.setA_twice, HS.out.2.1] at OC
      clear IN h5 K5 k3 HK3 HRW
      go_wp2_with fail
      refine OC.mono ?_
      rintro e w6 ⟨A6, c6, G6, rfl, -, h6, K6, -, -⟩
      have h6 := h6.less (G := fun k => False ∨ G k) (fun _ h => .inl h)
      have HRW6 := Lib.hid (K6.row HRW5.out)
      have k6 : w6.cell? ⟨P, 0, none⟩ = some (.pointer (some ⟨b false, 0, none⟩)) := h6.ptr false
      have AC := h6.again false (by rw [Pr.setA_a]; show 0 + S.lg.n ≤ _; rw [HS.out.2.2.1]; omega)
      rw [Pr.setA_a, Pr.setA_twice] at AC
      clear OC h6 K6 k5 HRW5
      go_wp2_with fail
      refine AC.mono ?_
      rintro e w7 ⟨rfl, h7, K7, -⟩
      have HRW7 := Lib.hid (K7.row HRW6.out)
      have k7 : w7.cell? ⟨P, 0, none⟩ = some (.pointer (some ⟨b false, 0, none⟩)) := h7.ptr false
      have OC := h7.output false
      rw [Pr.setA_a, Pr.setA_twice, HS.out.2.2.2.1] at OC
      rw [show (LS.drop a).length = k - a by rw [List.length_drop, HS.out.2.2.2.2]] at OC
      clear AC h7 K7 k6 HRW6
      go_wp2_with fail
      refine OC.mono ?_
      rintro e w8 ⟨A8, c8, G8, rfl, row8, h8, K8, -, -⟩
      have row9 := K8.row HRW7.out
      have hlen := HS.out.2.2.2.2
      have FI := Lib.hid (show ∀ q, Below w.heap.size w (w8.drewN q) from fun q => (h8.drewN q).bel)
      have hka : ((k - a : Nat) : Int) = (k : Int) - (a : Int) := by omega
      have hwk : wrap64 ((k : Int) - (a : Int)) = (k : Int) - (a : Int) := by unfold wrap64; omega
      clear OC h8 K8 k7 HRW7 HS
      have R8 := Lib.hid row8
      clear row8
      rcases row9.none_or with ⟨rfl, hnil, rfl⟩ | ⟨g, off, rfl, hc1, hc2⟩
      · subst hnil
        have hk0 : k = 0 := hlen.symm
        subst hk0
        have ha0 : a = 0 := by omega
        subst ha0
        have R9 : RowP w8 G8 A8 c8 [] := R8.out
        have SM := sameRows_calls (L := []) R9 row9 (by decide)
        rw [List.length_nil] at SM
        clear R9
        clear row9 R8 hka hwk
        go_wp2_with fail
        refine SM.mono ?_
        rintro e w9 ⟨rfl, m, rfl⟩
        have FJ := Lib.hid (FI.out m)
        clear SM FI
        go_wp2
        go_ret
        exact ⟨rfl, FJ.out⟩
      · rw [hlen] at hc1
        by_cases hca : c = a
        · subst hca
          have SM := sameRows_calls R8.out (row9.cut (k := c) (by rw [hlen]; exact h2) (some ⟨g, off, none⟩) (.inl ⟨rfl, rfl⟩)) (by rw [List.length_drop, hlen]; omega)
          rw [List.length_drop, hlen, show k - c = 0 by omega, Nat.sub_self] at SM
          clear row9 R8
          go_wp2_with fail
          refine SM.mono ?_
          rintro e w9 ⟨rfl, m, rfl⟩
          have FJ := Lib.hid (FI.out m)
          clear SM FI
          go_wp2
          go_ret
          exact ⟨rfl, FJ.out⟩
        · have SM := sameRows_calls R8.out (row9.cut (k := a) (by rw [hlen]; exact h2) (some ⟨g, off + a, none⟩) (.inr rfl)) (by rw [List.length_drop, hlen]; omega)
          rw [List.length_drop, hlen] at SM
          clear row9 R8
          unfold maxLen at hc2
          go_wp2_with fail
          refine SM.mono ?_
          rintro e w9 ⟨rfl, m, rfl⟩
          have FJ := Lib.hid (FI.out m)
          clear SM FI
          go_wp2
          go_ret
          exact ⟨rfl, FJ.out⟩
set_option maxRecDepth 20000 in
set_option maxHeartbeats 2000000 in
/-- outside the bounds -/
theorem ArqAgain_far (a0 a1 : Int) (h : ¬ (0 ≤ a0 ∧ a0 ≤ 16 ∧ 0 ≤ a1 ∧ a1 ≤ a0)) (w : World) :
    Calls Try.prog 13 #[.int .i64 a0, .int .i64 a1] w fun e w' => e = .returned (.bool true) ∧ Below w.heap.size w w' := by
  have key : a0 < 0 ∨ (¬ a0 < 0 ∧ 16 < a0) ∨ (¬ a0 < 0 ∧ ¬ 16 < a0 ∧ a1 < 0) ∨ (¬ a0 < 0 ∧ ¬ 16 < a0 ∧ ¬ a1 < 0 ∧ a0 < a1) := by omega
  clear h
  rcases key with g1 | ⟨g1, g2⟩ | ⟨g1, g2, g3⟩ | ⟨g1, g2, g3, g4⟩
  all_goals
    go_enter Try.func13, Try.ntmps13
    go_wp2_with fail
    refine (alive_calls w).mono ?_
    rintro e V ⟨rfl, hb⟩
    go_wp2
    go_ret
    exact ⟨rfl, hb⟩
theorem ArqAgain_walk (a0 a1 : Int) (w0 : (Lit.int .i64 a0).wf = true) (w1 : (Lit.int .i64 a1).wf = true) (w : World) :
    Calls Try.prog 13 #[.int .i64 a0, .int .i64 a1] w fun e w' => e = .returned (.bool true) ∧ Below w.heap.size w w' := by
  by_cases h : 0 ≤ a0 ∧ a0 ≤ 16 ∧ 0 ≤ a1 ∧ a1 ≤ a0
  · obtain ⟨h1, h2, h3, h4⟩ := h
    obtain ⟨n, rfl⟩ : ∃ n : Nat, a0 = n := ⟨a0.toNat, by omega⟩
    obtain ⟨a, rfl⟩ : ∃ n : Nat, a1 = n := ⟨a1.toNat, by omega⟩
    exact ArqAgain_main n a (by omega) (by omega) w
  · exact ArqAgain_far a0 a1 h w
end
end Go.Proofs.Ytdidmpimlodffaa

/- The law ArqWindows, walked. No condition. -/
import Derived.Test.YtdidmpimlodffaaG15
import Derived.Deep.LoopGhost
namespace Go.Proofs.Ytdidmpimlodffaa
open Go.RowKit
set_option linter.unusedVariables false

section
variable {w v v' : World} {H : Nat → Prop}
set_option maxRecDepth 20000 in
set_option maxHeartbeats 4000000 in
theorem ArqWindows_main (W Q n : Nat) (h1 : 1 ≤ W) (h2 : W ≤ 16) (h3 : 1 ≤ Q) (h4 : Q ≤ 30) (h5 : n ≤ 80) (w : World) :
    Calls Try.prog 5 #[.bool false, .int .i64 (W : Int), .int .i64 (Q : Int), .int .i64 (n : Int)] w fun e w' => e = .returned (.bool true) ∧ Below w.heap.size w w' := by
  have i1 : decide ((W : Int) < 1) = false := decide_eq_false (by omega)
  have i2 : decide ((16 : Int) < (W : Int)) = false := decide_eq_false (by omega)
  have i3 : decide ((Q : Int) < 1) = false := decide_eq_false (by omega)
  have i4 : decide ((30 : Int) < (Q : Int)) = false := decide_eq_false (by omega)
  have i5 : decide ((n : Int) < 0) = false := decide_eq_false (by omega)
  have i6 : decide ((80 : Int) < (n : Int)) = false := decide_eq_false (by omega)
  have j1 : ¬ (W : Int) < 1 := by omega
  have j2 : ¬ (16 : Int) < (W : Int) := by omega
  have j3 : ¬ (Q : Int) < 1 := by omega
  have j4 : ¬ (30 : Int) < (Q : Int) := by omega
  have j5 : ¬ (n : Int) < 0 := by omega
  have j6 : ¬ (80 : Int) < (n : Int) := by omega
  obtain ⟨e1, e2, e3⟩ := win_shape (m := 128) (.inl rfl) h1 h2 h4
  have hRest := upS_rest (shapeC 128 W Q)
  go_enter Try.func5, Try.ntmps5
  go_wp2_with fail
  refine (alive_calls w).mono ?_
  rintro e V ⟨rfl, hb⟩
  have HB := Lib.hid hb
  clear hb
  have SC := shape_calls 128 W Q V
  go_wp2_with fail
  refine SC.mono ?_
  rintro e w1 ⟨rfl, be1⟩
  have UP := up_calls (shapeC 128 W Q) (HB.out.trans (be1.mono HB.out.size))
  clear SC HB be1
  go_wp2_with fail
  refine UP.mono ?_
  rintro e w2 ⟨P, b, rfl, o⟩
  have hL : min 0 (W + Q) = 0 := by omega
  have H0 : Aside (PrOne (fun _ => False) w w2 P b ((upP (shapeC 128 W Q)).setA false (sentS (upS (shapeC 128 W Q)) (wins (min 0 (W + Q)))))) := by
    rw [hL, show wins 0 = [] from rfl, sentS_nil hRest, show (upP (shapeC 128 W Q)).setA false (upS (shapeC 128 W Q)) = upP (shapeC 128 W Q) from Pr.setA_self (upP (shapeC 128 W Q)) false]
    exact o
  clear o UP hL
  generalize upP (shapeC 128 W Q) = p0 at *
  generalize upS (shapeC 128 W Q) = s at *
  have h12 : s.lg.W ≤ 16 := by omega
  have hQ1 : 1 ≤ s.lg.Q := by omega
  have hQ2 : s.lg.Q ≤ 30 := by omega
  go_wp2_with fail
  go_loopg [12, 13] n (fun kx s12 s13 wr => ∃ k : Nat, s13 = .int .i64 (k : Int) ∧ s12 = .int .i64 ((min k (W + Q) : Nat) : Int) ∧ k ≤ n ∧ n - k ≤ kx ∧ Aside (PrOne (fun _ => False) w wr P b (p0.setA false (sentS s (wins (min k (W + Q)))))))
  case atStart => exact ⟨0, rfl, by rw [show min 0 (W + Q) = 0 by omega]; rfl, by omega, by omega, H0⟩
  case round =>
    clear H0
    obtain ⟨k, rfl, rfl, hk, hkx, HO⟩ := hrel
    by_cases hkn : k < n
    · have g0 : (k : Int) < (n : Int) := by omega
      have h := HO.out
      have k0 : wr.cell? ⟨P, 0, none⟩ = some (.pointer (some ⟨b false, 0, none⟩)) := h.ptr false
      have h' := h.beside (laid_below wr [UInt8.ofNat k])
      obtain ⟨st1, st2⟩ := win_step hRest hQ1 (by rw [e3]; decide) k
      rw [e1, e2] at st1 st2
      have SN := h'.send false (by rw [Pr.setA_a, sentS_os, wins_len]; show min _ _ + (s.lg.W - _) ≤ _; omega) (by rw [Pr.setA_a]; show (wins _).length ≤ _; rw [wins_len]; omega) (some ⟨wr.heap.size, 0, none⟩) 1 [UInt8.ofNat k] (laid_rd wr _) (by show 1 ≤ 1048576; decide)
      rw [Pr.setA_a, st1, st2, Pr.setA_twice, laid_byte wr (by omega)] at SN
      clear h h' st1 st2 HO
      by_cases hkf : k < W + Q
      · rw [if_pos hkf] at SN
        have NM := fun v => num_calls 0 v
        have hmin : ((min (k + 1) (W + Q) : Nat) : Int) = ((min k (W + Q) : Nat) : Int) + 1 := by omega
        have hmb : ((min k (W + Q) : Nat) : Int) ≤ 80 := by omega
        generalize min k (W + Q) = y at *
        generalize hy : min (k + 1) (W + Q) = y' at *
        have HY := Lib.hid hy
        clear hy
        go_wp2_with fail
        refine SN.mono ?_
        rintro e w3 ⟨rfl, h', -, -⟩
        have HR : Aside (PrOne (fun _ => False) w w3 P b (p0.setA false (sentS s (wins y')))) := h'
        clear SN h'
        go_wp2_with fail
        refine (NM _).mono ?_
        rintro e w4 ⟨rfl, hv⟩
        obtain rfl := hv.symm
        go_wp2
        go_roundg (n - (k + 1))
        case measure => omega
        case rel => exact ⟨k + 1, by go_num, by rw [HY.out, hmin], by omega, Nat.le_refl _, by rw [HY.out]; exact HR⟩
      · rw [if_neg hkf] at SN
        have NM := fun v => num_calls 6 v
        have hmin : min (k + 1) (W + Q) = min k (W + Q) := by omega
        rw [hmin] at SN
        go_wp2_with fail
        refine SN.mono ?_
        rintro e w3 ⟨rfl, h', -, -⟩
        have HR : Aside (PrOne (fun _ => False) w w3 P b (p0.setA false (sentS s (wins (min k (W + Q)))))) := h'
        clear SN h'
        go_wp2_with fail
        refine (NM _).mono ?_
        rintro e w4 ⟨rfl, hv⟩
        obtain rfl := hv.symm
        go_wp2_with fail
        refine (NM _).mono ?_
        rintro e w4 ⟨rfl, hv⟩
        obtain rfl := hv.symm
        go_wp2
        go_roundg (n - (k + 1))
        case measure => omega
        case rel => exact ⟨k + 1, by go_num, by rw [hmin], by omega, Nat.le_refl _, by rw [hmin]; exact HR⟩
    · have hkE : k = n := by omega
      subst hkE
      have g0 : ¬ (k : Int) < (k : Int) := by omega
      have h := HO.out
      have k0 : wr.cell? ⟨P, 0, none⟩ = some (.pointer (some ⟨b false, 0, none⟩)) := h.ptr false
      clear HO
      have hwq : wrap64 ((W : Int) + (Q : Int)) = (W : Int) + (Q : Int) := by unfold wrap64; omega
      by_cases c1 : W + Q < k
      · rw [show min k (W + Q) = W + Q by omega] at h ⊢
        have c1' : (W : Int) + (Q : Int) < (k : Int) := by omega
        have c2' : ¬ (k : Int) < (W : Int) := by omega
        have hcast : ((W + Q : Nat) : Int) = (W : Int) + (Q : Int) := rfl
        have OC := h.output false
        rw [Pr.setA_a, sentS_os, wins_len, e1, show min W (W + Q) = W by omega] at OC
        clear h
        go_wp2_with fail
        refine OC.mono ?_
        rintro e w3 ⟨A, c, G, rfl, -, h2, -, sp, -⟩
        have k1 : w3.cell? ⟨P, 0, none⟩ = some (.pointer (some ⟨b false, 0, none⟩)) := h2.ptr false
        have CC := h2.counts false
        have FI := Lib.hid h2.bel
        rw [Pr.setA_a] at CC
        rw [show (sentS s (wins (W + Q))).output.sn = (wins (W + Q)).length from rfl, wins_len] at CC
        clear OC h2 sp
        go_wp2_with fail
        refine CC.mono ?_
        rintro e w4 ⟨rfl, q, rfl⟩
        have FJ := Lib.hid (show Below w.heap.size w (w3.drewN q) from FI.out.trans ⟨rfl, rfl, rfl, Nat.le_refl _, fun _ _ => rfl⟩)
        clear CC FI k1
        go_wp2
        go_ret
        exact ⟨rfl, FJ.out⟩
      · rw [show min k (W + Q) = k by omega] at h ⊢
        have c1' : ¬ (W : Int) + (Q : Int) < (k : Int) := by omega
        by_cases c2 : k < W
        · have c2' : (k : Int) < (W : Int) := by omega
          have OC := h.output false
          rw [Pr.setA_a, sentS_os, wins_len, e1, show min W k = k by omega] at OC
          clear h
          go_wp2_with fail
          refine OC.mono ?_
          rintro e w3 ⟨A, c, G, rfl, -, h2, -, sp, -⟩
          have k1 : w3.cell? ⟨P, 0, none⟩ = some (.pointer (some ⟨b false, 0, none⟩)) := h2.ptr false
          have CC := h2.counts false
          have FI := Lib.hid h2.bel
          rw [Pr.setA_a] at CC
          rw [show (sentS s (wins (k))).output.sn = (wins (k)).length from rfl, wins_len] at CC
          clear OC h2 sp
          go_wp2_with fail
          refine CC.mono ?_
          rintro e w4 ⟨rfl, q, rfl⟩
          have FJ := Lib.hid (show Below w.heap.size w (w3.drewN q) from FI.out.trans ⟨rfl, rfl, rfl, Nat.le_refl _, fun _ _ => rfl⟩)
          clear CC FI k1
          go_wp2
          go_ret
          exact ⟨rfl, FJ.out⟩
        · have c2' : ¬ (k : Int) < (W : Int) := by omega
          have OC := h.output false
          rw [Pr.setA_a, sentS_os, wins_len, e1, show min W k = W by omega] at OC
          clear h
          go_wp2_with fail
          refine OC.mono ?_
          rintro e w3 ⟨A, c, G, rfl, -, h2, -, sp, -⟩
          have k1 : w3.cell? ⟨P, 0, none⟩ = some (.pointer (some ⟨b false, 0, none⟩)) := h2.ptr false
          have CC := h2.counts false
          have FI := Lib.hid h2.bel
          rw [Pr.setA_a] at CC
          rw [show (sentS s (wins (k))).output.sn = (wins (k)).length from rfl, wins_len] at CC
          clear OC h2 sp
          go_wp2_with fail
          refine CC.mono ?_
          rintro e w4 ⟨rfl, q, rfl⟩
          have FJ := Lib.hid (show Below w.heap.size w (w3.drewN q) from FI.out.trans ⟨rfl, rfl, rfl, Nat.le_refl _, fun _ _ => rfl⟩)
          clear CC FI k1
          go_wp2
          go_ret
          exact ⟨rfl, FJ.out⟩
set_option maxRecDepth 20000 in
set_option maxHeartbeats 4000000 in
theorem ArqWindows_wide (W Q n : Nat) (h1 : 1 ≤ W) (h2 : W ≤ 16) (h3 : 1 ≤ Q) (h4 : Q ≤ 30) (h5 : n ≤ 80) (w : World) :
    Calls Try.prog 5 #[.bool true, .int .i64 (W : Int), .int .i64 (Q : Int), .int .i64 (n : Int)] w fun e w' => e = .returned (.bool true) ∧ Below w.heap.size w w' := by
  have i1 : decide ((W : Int) < 1) = false := decide_eq_false (by omega)
  have i2 : decide ((16 : Int) < (W : Int)) = false := decide_eq_false (by omega)
  have i3 : decide ((Q : Int) < 1) = false := decide_eq_false (by omega)
  have i4 : decide ((30 : Int) < (Q : Int)) = false := decide_eq_false (by omega)
  have i5 : decide ((n : Int) < 0) = false := decide_eq_false (by omega)
  have i6 : decide ((80 : Int) < (n : Int)) = false := decide_eq_false (by omega)
  have j1 : ¬ (W : Int) < 1 := by omega
  have j2 : ¬ (16 : Int) < (W : Int) := by omega
  have j3 : ¬ (Q : Int) < 1 := by omega
  have j4 : ¬ (30 : Int) < (Q : Int) := by omega
  have j5 : ¬ (n : Int) < 0 := by omega
  have j6 : ¬ (80 : Int) < (n : Int) := by omega
  obtain ⟨e1, e2, e3⟩ := win_shape (m := 32768) (.inr rfl) h1 h2 h4
  have hRest := upS_rest (shapeC 32768 W Q)
  go_enter Try.func5, Try.ntmps5
  go_wp2_with fail
  refine (alive_calls w).mono ?_
  rintro e V ⟨rfl, hb⟩
  have HB := Lib.hid hb
  clear hb
  have SC := shape_calls 32768 W Q V
  go_wp2_with fail
  refine SC.mono ?_
  rintro e w1 ⟨rfl, be1⟩
  have UP := up_calls (shapeC 32768 W Q) (HB.out.trans (be1.mono HB.out.size))
  clear SC HB be1
  go_wp2_with fail
  refine UP.mono ?_
  rintro e w2 ⟨P, b, rfl, o⟩
  have hL : min 0 (W + Q) = 0 := by omega
  have H0 : Aside (PrOne (fun _ => False) w w2 P b ((upP (shapeC 32768 W Q)).setA false (sentS (upS (shapeC 32768 W Q)) (wins (min 0 (W + Q)))))) := by
    rw [hL, show wins 0 = [] from rfl, sentS_nil hRest, show (upP (shapeC 32768 W Q)).setA false (upS (shapeC 32768 W Q)) = upP (shapeC 32768 W Q) from Pr.setA_self (upP (shapeC 32768 W Q)) false]
    exact o
  clear o UP hL
  generalize upP (shapeC 32768 W Q) = p0 at *
  generalize upS (shapeC 32768 W Q) = s at *
  have h12 : s.lg.W ≤ 16 := by omega
  have hQ1 : 1 ≤ s.lg.Q := by omega
  have hQ2 : s.lg.Q ≤ 30 := by omega
  go_wp2_with fail
  go_loopg [12, 13] n (fun kx s12 s13 wr => ∃ k : Nat, s13 = .int .i64 (k : Int) ∧ s12 = .int .i64 ((min k (W + Q) : Nat) : Int) ∧ k ≤ n ∧ n - k ≤ kx ∧ Aside (PrOne (fun _ => False) w wr P b (p0.setA false (sentS s (wins (min k (W + Q)))))))
  case atStart => exact ⟨0, rfl, by rw [show min 0 (W + Q) = 0 by omega]; rfl, by omega, by omega, H0⟩
  case round =>
    clear H0
    obtain ⟨k, rfl, rfl, hk, hkx, HO⟩ := hrel
    by_cases hkn : k < n
    · have g0 : (k : Int) < (n : Int) := by omega
      have h := HO.out
      have k0 : wr.cell? ⟨P, 0, none⟩ = some (.pointer (some ⟨b false, 0, none⟩)) := h.ptr false
      have h' := h.beside (laid_below wr [UInt8.ofNat k])
      obtain ⟨st1, st2⟩ := win_step hRest hQ1 (by rw [e3]; decide) k
      rw [e1, e2] at st1 st2
      have SN := h'.send false (by rw [Pr.setA_a, sentS_os, wins_len]; show min _ _ + (s.lg.W - _) ≤ _; omega) (by rw [Pr.setA_a]; show (wins _).length ≤ _; rw [wins_len]; omega) (some ⟨wr.heap.size, 0, none⟩) 1 [UInt8.ofNat k] (laid_rd wr _) (by show 1 ≤ 1048576; decide)
      rw [Pr.setA_a, st1, st2, Pr.setA_twice, laid_byte wr (by omega)] at SN
      clear h h' st1 st2 HO
      by_cases hkf : k < W + Q
      · rw [if_pos hkf] at SN
        have NM := fun v => num_calls 0 v
        have hmin : ((min (k + 1) (W + Q) : Nat) : Int) = ((min k (W + Q) : Nat) : Int) + 1 := by omega
        have hmb : ((min k (W + Q) : Nat) : Int) ≤ 80 := by omega
        generalize min k (W + Q) = y at *
        generalize hy : min (k + 1) (W + Q) = y' at *
        have HY := Lib.hid hy
        clear hy
        go_wp2_with fail
        refine SN.mono ?_
        rintro e w3 ⟨rfl, h', -, -⟩
        have HR : Aside (PrOne (fun _ => False) w w3 P b (p0.setA false (sentS s (wins y')))) := h'
        clear SN h'
        go_wp2_with fail
        refine (NM _).mono ?_
        rintro e w4 ⟨rfl, hv⟩
        obtain rfl := hv.symm
        go_wp2
        go_roundg (n - (k + 1))
        case measure => omega
        case rel => exact ⟨k + 1, by go_num, by rw [HY.out, hmin], by omega, Nat.le_refl _, by rw [HY.out]; exact HR⟩
      · rw [if_neg hkf] at SN
        have NM := fun v => num_calls 6 v
        have hmin : min (k + 1) (W + Q) = min k (W + Q) := by omega
        rw [hmin] at SN
        go_wp2_with fail
        refine SN.mono ?_
        rintro e w3 ⟨rfl, h', -, -⟩
        have HR : Aside (PrOne (fun _ => False) w w3 P b (p0.setA false (sentS s (wins (min k (W + Q)))))) := h'
        clear SN h'
        go_wp2_with fail
        refine (NM _).mono ?_
        rintro e w4 ⟨rfl, hv⟩
        obtain rfl := hv.symm
        go_wp2_with fail
        refine (NM _).mono ?_
        rintro e w4 ⟨rfl, hv⟩
        obtain rfl := hv.symm
        go_wp2
        go_roundg (n - (k + 1))
        case measure => omega
        case rel => exact ⟨k + 1, by go_num, by rw [hmin], by omega, Nat.le_refl _, by rw [hmin]; exact HR⟩
    · have hkE : k = n := by omega
      subst hkE
      have g0 : ¬ (k : Int) < (k : Int) := by omega
      have h := HO.out
      have k0 : wr.cell? ⟨P, 0, none⟩ = some (.pointer (some ⟨b false, 0, none⟩)) := h.ptr false
      clear HO
      have hwq : wrap64 ((W : Int) + (Q : Int)) = (W : Int) + (Q : Int) := by unfold wrap64; omega
      by_cases c1 : W + Q < k
      · rw [show min k (W + Q) = W + Q by omega] at h ⊢
        have c1' : (W : Int) + (Q : Int) < (k : Int) := by omega
        have c2' : ¬ (k : Int) < (W : Int) := by omega
        have hcast : ((W + Q : Nat) : Int) = (W : Int) + (Q : Int) := rfl
        have OC := h.output false
        rw [Pr.setA_a, sentS_os, wins_len, e1, show min W (W + Q) = W by omega] at OC
        clear h
        go_wp2_with fail
        refine OC.mono ?_
        rintro e w3 ⟨A, c, G, rfl, -, h2, -, sp, -⟩
        have k1 : w3.cell? ⟨P, 0, none⟩ = some (.pointer (some ⟨b false, 0, none⟩)) := h2.ptr false
        have CC := h2.counts false
        have FI := Lib.hid h2.bel
        rw [Pr.setA_a] at CC
        rw [show (sentS s (wins (W + Q))).output.sn = (wins (W + Q)).length from rfl, wins_len] at CC
        clear OC h2 sp
        go_wp2_with fail
        refine CC.mono ?_
        rintro e w4 ⟨rfl, q, rfl⟩
        have FJ := Lib.hid (show Below w.heap.size w (w3.drewN q) from FI.out.trans ⟨rfl, rfl, rfl, Nat.le_refl _, fun _ _ => rfl⟩)
        clear CC FI k1
        go_wp2
        go_ret
        exact ⟨rfl, FJ.out⟩
      · rw [show min k (W + Q) = k by omega] at h ⊢
        have c1' : ¬ (W : Int) + (Q : Int) < (k : Int) := by omega
        by_cases c2 : k < W
        · have c2' : (k : Int) < (W : Int) := by omega
          have OC := h.output false
          rw [Pr.setA_a, sentS_os, wins_len, e1, show min W k = k by omega] at OC
          clear h
          go_wp2_with fail
          refine OC.mono ?_
          rintro e w3 ⟨A, c, G, rfl, -, h2, -, sp, -⟩
          have k1 : w3.cell? ⟨P, 0, none⟩ = some (.pointer (some ⟨b false, 0, none⟩)) := h2.ptr false
          have CC := h2.counts false
          have FI := Lib.hid h2.bel
          rw [Pr.setA_a] at CC
          rw [show (sentS s (wins (k))).output.sn = (wins (k)).length from rfl, wins_len] at CC
          clear OC h2 sp
          go_wp2_with fail
          refine CC.mono ?_
          rintro e w4 ⟨rfl, q, rfl⟩
          have FJ := Lib.hid (show Below w.heap.size w (w3.drewN q) from FI.out.trans ⟨rfl, rfl, rfl, Nat.le_refl _, fun _ _ => rfl⟩)
          clear CC FI k1
          go_wp2
          go_ret
          exact ⟨rfl, FJ.out⟩
        · have c2' : ¬ (k : Int) < (W : Int) := by omega
          have OC := h.output false
          rw [Pr.setA_a, sentS_os, wins_len, e1, show min W k = W by omega] at OC
          clear h
          go_wp2_with fail
          refine OC.mono ?_
          rintro e w3 ⟨A, c, G, rfl, -, h2, -, sp, -⟩
          have k1 : w3.cell? ⟨P, 0, none⟩ = some (.pointer (some ⟨b false, 0, none⟩)) := h2.ptr false
          have CC := h2.counts false
          have FI := Lib.hid h2.bel
          rw [Pr.setA_a] at CC
          rw [show (sentS s (wins (k))).output.sn = (wins (k)).length from rfl, wins_len] at CC
          clear OC h2 sp
          go_wp2_with fail
          refine CC.mono ?_
          rintro e w4 ⟨rfl, q, rfl⟩
          have FJ := Lib.hid (show Below w.heap.size w (w3.drewN q) from FI.out.trans ⟨rfl, rfl, rfl, Nat.le_refl _, fun _ _ => rfl⟩)
          clear CC FI k1
          go_wp2
          go_ret
          exact ⟨rfl, FJ.out⟩
set_option maxRecDepth 20000 in
set_option maxHeartbeats 2000000 in
/-- outside the bounds -/
theorem ArqWindows_far (a0 : Bool) (a1 a2 a3 : Int) (h : ¬ (1 ≤ a1 ∧ a1 ≤ 16 ∧ 1 ≤ a2 ∧ a2 ≤ 30 ∧ 0 ≤ a3 ∧ a3 ≤ 80)) (w : World) :
    Calls Try.prog 5 #[.bool a0, .int .i64 a1, .int .i64 a2, .int .i64 a3] w fun e w' => e = .returned (.bool true) ∧ Below w.heap.size w w' := by
  have key : a1 < 1 ∨ (¬ a1 < 1 ∧ 16 < a1) ∨ (¬ a1 < 1 ∧ ¬ 16 < a1 ∧ a2 < 1) ∨ (¬ a1 < 1 ∧ ¬ 16 < a1 ∧ ¬ a2 < 1 ∧ 30 < a2) ∨ (¬ a1 < 1 ∧ ¬ 16 < a1 ∧ ¬ a2 < 1 ∧ ¬ 30 < a2 ∧ a3 < 0) ∨ (¬ a1 < 1 ∧ ¬ 16 < a1 ∧ ¬ a2 < 1 ∧ ¬ 30 < a2 ∧ ¬ a3 < 0 ∧ 80 < a3) := by omega
  clear h
  rcases key with g1 | ⟨g1, g2⟩ | ⟨g1, g2, g3⟩ | ⟨g1, g2, g3, g4⟩ | ⟨g1, g2, g3, g4, g5⟩ | ⟨g1, g2, g3, g4, g5, g6⟩
  all_goals
    cases a0
    all_goals
      go_enter Try.func5, Try.ntmps5
      go_wp2_with fail
      refine (alive_calls w).mono ?_
      rintro e V ⟨rfl, hb⟩
      go_wp2
      go_ret
      exact ⟨rfl, hb⟩
theorem ArqWindows_walk (a0 : Bool) (a1 a2 a3 : Int) (w1 : (Lit.int .i64 a1).wf = true) (w2 : (Lit.int .i64 a2).wf = true) (w3 : (Lit.int .i64 a3).wf = true) (w : World) :
    Calls Try.prog 5 #[.bool a0, .int .i64 a1, .int .i64 a2, .int .i64 a3] w fun e w' => e = .returned (.bool true) ∧ Below w.heap.size w w' := by
  by_cases h : 1 ≤ a1 ∧ a1 ≤ 16 ∧ 1 ≤ a2 ∧ a2 ≤ 30 ∧ 0 ≤ a3 ∧ a3 ≤ 80
  · obtain ⟨h1, h2, h3, h4, h5, h6⟩ := h
    obtain ⟨W, rfl⟩ : ∃ n : Nat, a1 = n := ⟨a1.toNat, by omega⟩
    obtain ⟨Q, rfl⟩ : ∃ n : Nat, a2 = n := ⟨a2.toNat, by omega⟩
    obtain ⟨n, rfl⟩ : ∃ n : Nat, a3 = n := ⟨a3.toNat, by omega⟩
    cases a0
    · exact ArqWindows_main W Q n (by omega) (by omega) (by omega) (by omega) (by omega) w
    · exact ArqWindows_wide W Q n (by omega) (by omega) (by omega) (by omega) (by omega) w
  · exact ArqWindows_far a0 a1 a2 a3 h w
end
end Go.Proofs.Ytdidmpimlodffaa

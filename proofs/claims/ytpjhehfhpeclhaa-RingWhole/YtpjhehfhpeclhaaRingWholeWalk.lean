/- The law RingWhole, walked. Condition: the slices read as their rows and numbers. -/
import Derived.Test.YtpjhehfhpeclhaaRngAlive
import Derived.Test.YtpjhehfhpeclhaaRngStr
import Derived.Test.YtpjhehfhpeclhaaBytesRowsC
import Derived.Test.YtpjhehfhpeclhaaIntRows
import Derived.Deep.LoopGhost
namespace Go.Proofs.Ytpjhehfhpeclhaa
open Go.RowKit
set_option linter.unusedVariables false

set_option maxRecDepth 20000 in
set_option maxHeartbeats 1000000 in
theorem RingWhole_main (R : Nat) (hR : R ≤ 1000) (A : Option Addr) (c1 : Nat) (ls : List (List UInt8)) (A2 : Option Addr) (c2 : Nat) (ts : List Int) (w : World) (hr : RdR w A ls) (hl : ls.length ≤ 40) (hr2 : RdI w A2 ts) (ht : ls.length ≤ ts.length) (ht' : ts.length ≤ 9223372036854775807) :
    Calls Try.prog 4 #[.int .i64 (R : Int), .slice A ls.length c1, .slice A2 ts.length c2] w fun e w' => e = .returned (.bool true) ∧ Below w.heap.size w w' := by
  have RA := Lib.hid hr
  have RI := Lib.hid hr2
  obtain ⟨len, hlen⟩ : ∃ n, n = ls.length := ⟨_, rfl⟩
  obtain ⟨len2, hlen2⟩ : ∃ n, n = ts.length := ⟨_, rfl⟩
  rw [← hlen] at hl ht ⊢
  rw [← hlen2] at ht ht' ⊢
  have HL := Lib.hid hlen
  have HL2 := Lib.hid hlen2
  clear hr hr2 hlen hlen2
  have g1 : ¬ (R : Int) < 0 := by omega
  have g2 : ¬ (1000 : Int) < (R : Int) := by omega
  have g3 : ¬ (40 : Int) < (len : Int) := by omega
  have g4 : ¬ (len2 : Int) < (len : Int) := by omega
  go_enter Try.func4, Try.ntmps4
  go_wp2_with fail
  refine (alive_calls w).mono ?_
  rintro e W ⟨rfl, hb⟩
  have NW := new_calls (R : Int) W
  have O1 := One.fresh hb (R : Int)
  rw [newRng_nat R (by omega)] at NW O1
  have H1 : Aside (One w (W.alloc (.cells (rc R none 0 0 0 none 0 0 0) 41)) (fun k => k = W.heap.size) W.heap.size ⟨R, [], false, 0⟩) := O1
  clear hb O1
  go_wp2_with fail
  refine NW.mono ?_
  rintro e w1 ⟨rfl, rfl⟩
  clear NW
  generalize W.alloc (.cells (rc R none 0 0 0 none 0 0 0) 41) = w1 at *
  generalize W.heap.size = p at *
  go_wp2_with fail
  go_loopg [9, 10, 11, 12] len (fun kx s9 s10 s11 s12 wr => ∃ (i D : Nat) (I O : List UInt8) (s : Rng) (F : Nat → Prop), s9 = .string ⟨I.toArray⟩ ∧ s10 = .string ⟨O.toArray⟩ ∧ s11 = .int .i64 (D : Int) ∧ s12 = .int .i64 i ∧ i ≤ len ∧ len - i ≤ kx ∧ Aside (One w wr F p s ∧ O ++ s.o = I ∧ I.length ≤ 200 * i ∧ s.R = R ∧ s.D = D ∧ D ≤ i))
  case atStart => exact ⟨0, 0, [], [], _, _, rfl, rfl, rfl, rfl, by omega, by omega, H1.out, rfl, by simp, rfl, rfl, by omega⟩
  case round =>
    clear H1
    obtain ⟨i, D, I, O, s, F, rfl, rfl, rfl, rfl, hil, hkx, HO⟩ := hrel
    by_cases hlt : i < len
    · have hltz : (i : Int) < (len : Int) := by omega
      have hltz2 : (i : Int) < (len2 : Int) := by omega
      obtain ⟨b, off, B, d, rfl, hbw, k0, rdx, hxd, hdm⟩ := RdR.at_ (k := i) RA.out (by rw [← HL.out]; exact hlt)
      obtain ⟨b2, off2, rfl, hbw2, k2⟩ := RdI.at_ (k := i) RI.out (by rw [← HL2.out]; omega)
      generalize ls.getD i [] = x at *
      generalize ts.getD i 0 = t at k2
      have KK := Lib.hid (show ∀ v, Below w.heap.size w v → v.cell? ⟨b, off + i, none⟩ = some (.slice B x.length d) ∧ v.cell? ⟨b2, off2 + i, none⟩ = some (.int .i64 t) ∧ Rd v B x from fun v hv => ⟨(hv.cell (p := ⟨b, off + i, none⟩) hbw).trans k0, (hv.cell (p := ⟨b2, off2 + i, none⟩) hbw2).trans k2, rdx.below hv⟩)
      have hxd' : (x.length : Int) ≤ (d : Int) := by omega
      have hdm' : d ≤ 9223372036854775807 := by unfold maxLen at hdm; omega
      have HD := Lib.hid hdm
      clear k0 k2 rdx hbw hbw2 hdm
      obtain ⟨q0, _, _⟩ := KK.out wr HO.out.1.bel
      by_cases hx : x.length ≤ 200
      · have hxz : ¬ (200 : Int) < (x.length : Int) := by omega
        have P1 := HO.out.1.add B d x (KK.out wr HO.out.1.bel).2.2 hxd HD.out
        have hmo := congrArg List.length HO.out.2.1
        rw [List.length_append] at hmo
        have hIl := HO.out.2.2.1
        have hDi := HO.out.2.2.2.2.2
        have hoR : s.o.length ≤ R := by have := HO.out.1.1.ok.1; rw [HO.out.2.2.2.1] at this; exact this
        obtain ⟨m, hm⟩ : ∃ m, m = s.o.length := ⟨_, rfl⟩
        have y1 : ((I.length : Nat) : Int) - (O.length : Int) = (m : Int) := by omega
        have y2 : m ≤ 1000 := by omega
        have HM := Lib.hid hm
        have HIO := Lib.hid (show I.length = O.length + m by omega)
        have HIl := Lib.hid hIl
        have hI8 : I.length ≤ 8000 := by omega
        have hO8 : O.length ≤ 8000 := by omega
        have hDl : D ≤ 40 := by omega
        clear hmo hIl hm hoR
        by_cases hf : s.o.length + x.length ≤ s.R
        · have AO := Lib.hid (add_o hf)
          rw [(show s.fits x = true from decide_eq_true hf)] at P1
          have y3 : (m : Int) + (x.length : Int) ≤ (R : Int) := by have := HM.out; have := HO.out.2.2.2.1; omega
          clear hf
          go_wp2_with fail
          refine P1.mono ?_
          rintro e w2 ⟨rfl, h2, o2⟩
          clear P1 q0 o2
          generalize more _ _ _ = F2 at h2
          obtain ⟨q0, q1, q2⟩ := KK.out w2 h2.bel
          have TK := h2.take t
          have hT : (s.add x).takeL t ++ ((s.add x).take t).o = (s.add x).o := by rw [Rng.take_o]; exact List.take_append_drop _ _
          have HR3 := Lib.hid (show ((s.add x).take t).R = R from AO.out.2.1.trans HO.out.2.2.2.1)
          have cv := run_conv w2 B d x q2
          unfold strV at cv
          have HD3 := Lib.hid (show ((s.add x).take t).D = D from AO.out.2.2.trans HO.out.2.2.2.2.1)
          have HD4 := Lib.hid (show D ≤ i + 1 by omega)
          rw [AO.out.1] at hT
          have HII := Lib.hid (show (O ++ (s.add x).takeL t) ++ ((s.add x).take t).o = I ++ x by rw [List.append_assoc, hT, ← List.append_assoc, HO.out.2.1])
          have HIL := Lib.hid (show (I ++ x).length ≤ 200 * (i + 1) by rw [List.length_append]; have := HIl.out; omega)
          have ok3 := (h2.1.ok.take t).1
          rw [HR3.out] at ok3
          generalize (s.add x).take t = s3 at *
          generalize (s.add x).takeL t = T at *
          obtain ⟨m3, hm3⟩ : ∃ m3, m3 = s3.o.length := ⟨_, rfl⟩
          have HL3 := Lib.hid hm3.symm
          have hle := Lib.hid (show (I ++ x).length = (O ++ T).length + m3 by rw [← HII.out, List.length_append, hm3])
          have HIk := Lib.hid (show m3 ≤ R by omega)
          have sc1 := str_cat I x
          have sc2 := str_cat O T
          have s1 : ¬ 9223372036854775807 < I.length + x.length := by omega
          have s2 : ¬ 9223372036854775807 < O.length + T.length := by have h1 := hle.out; have h2 := HIL.out; have h3 := len_app O T; omega
          have hIc : (I ++ x).length ≤ 10000 := by have := HIL.out; omega
          have hOc : (O ++ T).length ≤ 10000 := by have := hle.out; omega
          clear h2 HO hT hm3 ok3 AO y1 y3 HIO HIl HM
          generalize hI' : I ++ x = I' at *
          clear hI'
          obtain ⟨D', hD'⟩ : ∃ D', D' = D := ⟨_, rfl⟩
          rw [← hD'] at HD3 HD4
          go_wp2_with fail
          refine TK.mono ?_
          rintro e w3 ⟨⟨A9, c9, rfl, own9⟩, h3, _⟩
          have q9 := run_conv w3 A9 c9 T own9.rd
          unfold strV at q9
          have LN := h3.len
          have DR := h3.dropped
          rw [HD3.out] at DR
          rw [HL3.out] at LN
          have H3 : Aside (One w w3 F2 p s3 ∧ (O ++ T) ++ s3.o = I' ∧ I'.length ≤ 200 * (i + 1) ∧ s3.R = R ∧ s3.D = D' ∧ D' ≤ i + 1) := ⟨h3, HII.out, HIL.out, HR3.out, HD3.out, HD4.out⟩
          have sx := str_front (O ++ T) s3.o I' HII.out
          have z0 : ¬ (I'.length : Int) < ((O ++ T).length : Int) := by have := hle.out; omega
          have z1 : ¬ (R : Int) < (m3 : Int) := by have := HIk.out; omega
          have z2 : ((I'.length : Nat) : Int) - ((O ++ T).length : Int) = (m3 : Int) := by have := hle.out; omega
          have z3 : ((O ++ T).length : Int) ≤ (I'.length : Int) := by have := hle.out; omega
          have z4 : (0 : Int) ≤ ((O ++ T).length : Int) := by omega
          have z5 : m3 ≤ 100000 := by have := HIk.out; omega
          clear TK own9 h3
          generalize O ++ T = O' at *
          go_wp2_with fail
          refine LN.mono ?_
          rintro e v9 ⟨rfl, rfl⟩
          go_wp2_with fail
          refine LN.mono ?_
          rintro e v9 ⟨rfl, rfl⟩
          go_wp2_with fail
          refine DR.mono ?_
          rintro e v9 ⟨rfl, rfl⟩
          clear LN DR
          go_wp2
          go_roundg (len - (i + 1))
          case measure => omega
          case rel => exact ⟨i + 1, D', I', O', s3, F2, rfl, rfl, by rw [hD'], by go_num, by omega, Nat.le_refl _, H3⟩
        · have AO := Lib.hid (add_not hf)
          rw [(show s.fits x = false from decide_eq_false hf)] at P1
          have y3 : ¬ (m : Int) + (x.length : Int) ≤ (R : Int) := by have := HM.out; have := HO.out.2.2.2.1; omega
          clear hf
          go_wp2_with fail
          refine P1.mono ?_
          rintro e w2 ⟨rfl, h2, o2⟩
          clear P1 q0 o2
          generalize more _ _ _ = F2 at h2
          obtain ⟨q0, q1, q2⟩ := KK.out w2 h2.bel
          have TK := h2.take t
          have hT : (s.add x).takeL t ++ ((s.add x).take t).o = (s.add x).o := by rw [Rng.take_o]; exact List.take_append_drop _ _
          have HR3 := Lib.hid (show ((s.add x).take t).R = R from AO.out.2.1.trans HO.out.2.2.2.1)
          have e9 : (s.add x).D = D + 1 := by
            rw [AO.out.2.2, HO.out.2.2.2.2.1]
            exact Nat.min_eq_left (by omega)
          have HD3 := Lib.hid (show ((s.add x).take t).D = D + 1 from e9)
          clear e9
          have HD4 := Lib.hid (show D + 1 ≤ i + 1 by omega)
          rw [AO.out.1] at hT
          have HII := Lib.hid (show (O ++ (s.add x).takeL t) ++ ((s.add x).take t).o = I by rw [List.append_assoc, hT, HO.out.2.1])
          have HIL := Lib.hid (show I.length ≤ 200 * (i + 1) by have := HIl.out; omega)
          have ok3 := (h2.1.ok.take t).1
          rw [HR3.out] at ok3
          generalize (s.add x).take t = s3 at *
          generalize (s.add x).takeL t = T at *
          obtain ⟨m3, hm3⟩ : ∃ m3, m3 = s3.o.length := ⟨_, rfl⟩
          have HL3 := Lib.hid hm3.symm
          have hle := Lib.hid (show I.length = (O ++ T).length + m3 by rw [← HII.out, List.length_append, hm3])
          have HIk := Lib.hid (show m3 ≤ R by omega)
          have sc2 := str_cat O T
          have s2 : ¬ 9223372036854775807 < O.length + T.length := by have h1 := hle.out; have h2 := HIL.out; have h3 := len_app O T; omega
          have hOc : (O ++ T).length ≤ 10000 := by have := hle.out; omega
          clear h2 HO hT hm3 ok3 AO y1 y3 HIO HIl HM
          obtain ⟨I', hI'⟩ : ∃ I', I' = I := ⟨_, rfl⟩
          rw [← hI'] at HII HIL hle ⊢
          have hI8' : I'.length ≤ 8000 := by rw [hI']; exact hI8
          clear hI' hI8
          obtain ⟨D', hD'⟩ : ∃ D', D' = D + 1 := ⟨_, rfl⟩
          rw [← hD'] at HD3 HD4
          have hDz : (D : Int) + 1 = (D' : Int) := by omega
          clear hD'
          go_wp2_with fail
          refine TK.mono ?_
          rintro e w3 ⟨⟨A9, c9, rfl, own9⟩, h3, _⟩
          have q9 := run_conv w3 A9 c9 T own9.rd
          unfold strV at q9
          have LN := h3.len
          have DR := h3.dropped
          rw [HD3.out] at DR
          rw [HL3.out] at LN
          have H3 : Aside (One w w3 F2 p s3 ∧ (O ++ T) ++ s3.o = I' ∧ I'.length ≤ 200 * (i + 1) ∧ s3.R = R ∧ s3.D = D' ∧ D' ≤ i + 1) := ⟨h3, HII.out, HIL.out, HR3.out, HD3.out, HD4.out⟩
          have sx := str_front (O ++ T) s3.o I' HII.out
          have z0 : ¬ (I'.length : Int) < ((O ++ T).length : Int) := by have := hle.out; omega
          have z1 : ¬ (R : Int) < (m3 : Int) := by have := HIk.out; omega
          have z2 : ((I'.length : Nat) : Int) - ((O ++ T).length : Int) = (m3 : Int) := by have := hle.out; omega
          have z3 : ((O ++ T).length : Int) ≤ (I'.length : Int) := by have := hle.out; omega
          have z4 : (0 : Int) ≤ ((O ++ T).length : Int) := by omega
          have z5 : m3 ≤ 100000 := by have := HIk.out; omega
          clear TK own9 h3
          generalize O ++ T = O' at *
          go_wp2_with fail
          refine LN.mono ?_
          rintro e v9 ⟨rfl, rfl⟩
          go_wp2_with fail
          refine LN.mono ?_
          rintro e v9 ⟨rfl, rfl⟩
          go_wp2_with fail
          refine DR.mono ?_
          rintro e v9 ⟨rfl, rfl⟩
          clear LN DR
          go_wp2
          go_roundg (len - (i + 1))
          case measure => omega
          case rel => exact ⟨i + 1, D', I', O', s3, F2, rfl, rfl, by go_num, by go_num, by omega, Nat.le_refl _, H3⟩
      · have hxz : (200 : Int) < (x.length : Int) := by omega
        have FIN := Lib.hid HO.out.1.bel
        go_wp2
        go_ret
        exact ⟨rfl, FIN.out⟩
    · have hltz : ¬ (i : Int) < (len : Int) := by omega
      have FIN := Lib.hid HO.out.1.bel
      go_wp2
      go_ret
      exact ⟨rfl, FIN.out⟩
theorem RingWhole_far (R : Int) (A A2 : Option Addr) (len c1 len2 c2 : Nat) (w : World) (hl : len ≤ 9223372036854775807) (hl2 : len2 ≤ 9223372036854775807) (h : R < 0 ∨ 1000 < R ∨ 40 < len ∨ len2 < len) :
    Calls Try.prog 4 #[.int .i64 R, .slice A len c1, .slice A2 len2 c2] w fun e w' => e = .returned (.bool true) ∧ Below w.heap.size w w' := by
  have G := Lib.hid h
  clear h
  by_cases g1 : R < 0
  · go_enter Try.func4, Try.ntmps4
    go_wp2_with fail
    refine (alive_calls w).mono ?_
    rintro e W ⟨rfl, hb⟩
    go_wp2
    go_ret
    exact ⟨rfl, hb⟩
  by_cases g2 : 1000 < R
  · go_enter Try.func4, Try.ntmps4
    go_wp2_with fail
    refine (alive_calls w).mono ?_
    rintro e W ⟨rfl, hb⟩
    go_wp2
    go_ret
    exact ⟨rfl, hb⟩
  by_cases g3 : (40 : Int) < (len : Int)
  · go_enter Try.func4, Try.ntmps4
    go_wp2_with fail
    refine (alive_calls w).mono ?_
    rintro e W ⟨rfl, hb⟩
    go_wp2
    go_ret
    exact ⟨rfl, hb⟩
  · have g4 : (len2 : Int) < (len : Int) := by have := G.out; omega
    go_enter Try.func4, Try.ntmps4
    go_wp2_with fail
    refine (alive_calls w).mono ?_
    rintro e W ⟨rfl, hb⟩
    go_wp2
    go_ret
    exact ⟨rfl, hb⟩
theorem RingWhole_walk (a0 : Int) (a1 : Option Addr) (len1 cap1 : Nat) (a2 : Option Addr) (len2 cap2 : Nat) (z2 : List Int) (w : World) (w0 : (Lit.int .i64 a0).wf = true) (h1 : IsRows w a1 len1 cap1)
    (h2 : (a2 = none ∧ len2 = 0 ∧ cap2 = 0 ∧ z2 = []) ∨ ∃ x, a2 = some x ∧ len2 ≤ cap2 ∧ cap2 ≤ maxLen ∧ z2.length = cap2 ∧ (∀ i, i < z2.length → w.cell? (x.add i) = some (.int .i64 (z2.getD i 0))) ∧ ∀ n ∈ z2, (Lit.int .i64 n).wf = true) :
    Calls Try.prog 4 #[.int .i64 a0, .slice a1 len1 cap1, .slice a2 len2 cap2] w fun e w' => e = .returned (.bool true) ∧ Below w.heap.size w w' := by
  obtain ⟨ls, rfl, hc1, hm1, hr1⟩ := h1
  obtain ⟨ts, rfl, hc2, hm2, hr2⟩ := RdI.of_row h2
  unfold maxLen at hm1 hm2
  by_cases h : a0 < 0 ∨ 1000 < a0 ∨ 40 < ls.length ∨ ts.length < ls.length
  · exact RingWhole_far a0 a1 a2 ls.length cap1 ts.length cap2 w (by omega) (by omega) h
  · obtain ⟨R, rfl⟩ : ∃ R : Nat, a0 = (R : Int) := ⟨a0.toNat, by omega⟩
    exact RingWhole_main R (by omega) a1 cap1 ls a2 cap2 ts w hr1 (by omega) hr2 (by omega) (by omega)
end Go.Proofs.Ytpjhehfhpeclhaa

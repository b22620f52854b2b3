/- The law RingPlays, walked. Condition: the slice reads as its calls. -/
import Derived.Test.YtpjhehfhpeclhaaRngTri
import Derived.Deep.LoopGhost
import Derived.Deep.RegionHeld
namespace Go.Proofs.Ytpjhehfhpeclhaa
open Go.RowKit
set_option linter.unusedVariables false

set_option maxRecDepth 20000 in
set_option maxHeartbeats 4000000 in
theorem RingPlays_main (room : Int) (A : Option Addr) (cap : Nat) (ls : List ActP) (hl : ls.length ≤ 100) (w : World) (hr : RdP w A ls) :
    Calls Try.prog 3 #[.int .i64 room, .slice A ls.length cap] w fun e w' => e = .returned (.bool true) ∧ Below w.heap.size w w' := by
  have HR := Lib.hid hr
  obtain ⟨len, hlen⟩ : ∃ n, n = ls.length := ⟨_, rfl⟩
  rw [← hlen] at hl ⊢
  have HL := Lib.hid hlen
  clear hr hlen
  have g1 : ¬ (100 : Int) < (len : Int) := by omega
  go_enter Try.func3, Try.ntmps3
  go_wp2_with fail
  refine (alive_calls w).mono ?_
  rintro e W ⟨rfl, bel⟩
  obtain ⟨w3, hw3⟩ : ∃ w3, ((W.alloc (.cells (rc (newRng room).R none 0 0 0 none 0 0 0) 41)).alloc (.cells (rc (newRng 9).R none 0 0 0 none 0 0 0) 41)).alloc (.cells (qc (newRng room).R none 0 0 false 0) 44) = w3 := ⟨_, rfl⟩
  have hF : Tr0 w w3 W.heap.size (newRng room) (newRng 9) (newRng room) := by rw [← hw3]; exact Tr0.start bel room 9 room
  have c1 := new_calls room W
  have c2 := new_calls 9 (W.alloc (.cells (rc (newRng room).R none 0 0 0 none 0 0 0) 41))
  have c3 := newR_calls room ((W.alloc (.cells (rc (newRng room).R none 0 0 0 none 0 0 0) 41)).alloc (.cells (rc (newRng 9).R none 0 0 0 none 0 0 0) 41))
  rw [show (W.alloc (.cells (rc (newRng room).R none 0 0 0 none 0 0 0) 41)).heap.size = W.heap.size + 1 by simp] at c2
  rw [hw3, show ((W.alloc (.cells (rc (newRng room).R none 0 0 0 none 0 0 0) 41)).alloc (.cells (rc (newRng 9).R none 0 0 0 none 0 0 0) 41)).heap.size = W.heap.size + 2 by simp] at c3
  obtain ⟨p, hp⟩ : ∃ p, p = W.heap.size := ⟨_, rfl⟩
  rw [← hp] at c1 c2 c3 hF
  have H0 : Aside (Tr0 w w3 p (newRng room) (newRng 9) (newRng room)) := hF
  clear hF hw3 hp
  go_wp2_with fail
  refine c1.mono ?_
  rintro e w' ⟨rfl, rfl⟩
  go_wp2_with fail
  refine c2.mono ?_
  rintro e w' ⟨rfl, rfl⟩
  go_wp2_with fail
  refine c3.mono ?_
  rintro e w' ⟨rfl, rfl⟩
  clear c1 c2 c3 bel
  go_wp2_with fail
  go_loopg [9] len (fun kx s9 wr => ∃ (i : Nat) (s so : Rng), s9 = .int .i64 i ∧ i ≤ len ∧ len - i ≤ kx ∧ Aside (Tr0 w wr p s so s))
  case atStart => exact ⟨0, newRng room, newRng 9, rfl, by omega, by omega, H0⟩
  case round =>
    clear H0
    obtain ⟨i, s, so, rfl, hil, hkx, HT⟩ := hrel
    by_cases hlt : i < len
    · have hltz : (i : Int) < (len : Int) := by omega
      obtain ⟨b, off, rfl, hbw, k0, k1, hnb, B, d, k4, rdx, hxd, hdm⟩ := RdP.at_ (j := i) HR.out (by rw [← HL.out]; exact hlt)
      generalize ls.getD i ActP.zero = a at *
      obtain ⟨way, n, x⟩ := a
      simp only at k0 k1 k4 rdx hxd hnb
      have q0 := (HT.out.bel.cell (p := ⟨b, off + i * 3, none⟩) hbw).trans k0
      have q1 := (HT.out.bel.cell (p := ⟨b, off + i * 3 + 1, none⟩) hbw).trans k1
      have q4 := (HT.out.bel.cell (p := ⟨b, off + i * 3 + 2, none⟩) hbw).trans k4
      have RX := Lib.hid rdx
      have DM := Lib.hid hdm
      have XD := Lib.hid hxd
      have NB := Lib.hid hnb
      have hd63 : d ≤ 9223372036854775807 := by unfold maxLen at hdm; omega
      clear k0 k1 k4 hbw rdx hdm hxd hnb
      by_cases hx : x.length ≤ 100
      · have hxz : ¬ (100 : Int) < (x.length : Int) := by omega
        have H1 : TrA w (wr.alloc (.cells #[.int .i64 way, .int .i64 n, .slice B x.length d] 30)) p s so s wr.heap.size ⟨way, n, x⟩ B d := HT.out.call ⟨way, n, x⟩ B d
        have P1 := (TrX.beside H1 (laid_below _ [1])).addO (some ⟨_, 0, none⟩) 1 [1] (laid_rd _ [1]) (by decide) (by decide)
        rw [show (wr.alloc (.cells #[.int .i64 way, .int .i64 n, .slice B x.length d] 30)).heap.size = wr.heap.size + 1 by simp] at P1
        clear HT H1
        go_wp2_with fail
        refine P1.mono ?_
        rintro e v1 ⟨rfl, hT⟩
        clear P1 q0 q1 q4
        generalize wr.heap.size = q at hT ⊢
        generalize so.add [1] = so2 at hT
        generalize so.fits [1] = kk
        have k0 := hT.cells.1
        simp only at k0
        have hT1 := hT.drewN 1
        by_cases hw0 : way = 0
        · subst hw0
          obtain ⟨A1, c1, V1, r1, m1, b1, kk1⟩ := app_nil (V := v1.drew) (d := d) (show Rd v1.drew B x from RX.out.below hT1.bel) rfl (by omega)
          have hV : TrX w V1 p s so2 s q ⟨0, n, x⟩ B d none [] := TrX.beside hT1 b1
          have P2 := hV.addP A1 c1 x m1.rd m1.1 m1.2.1
          have P4 := Lib.hid (fun v2 (h : TrX w v2 p (s.add x) so2 s q ⟨0, n, x⟩ B d none []) => h.addR B d x (RX.out.below h.bel) XD.out DM.out (by omega))
          have j0 : v1.drew.cell? ⟨q, 2, none⟩ = some (.slice B x.length d) := hT1.cells.2.2
          have j1 : V1.cell? ⟨q, 2, none⟩ = some (.slice B x.length d) := hV.cells.2.2
          clear m1 b1 kk1 hV
          go_wp2_with fail
          go_region_held_law (fun w' => w'.cell? ⟨q, 2, none⟩ = some (.slice B x.length d)) (first | exact j0 | exact j1 | exact (TrX.cells (by assumption)).2.2) (first
            | ((with_reducible refine step_append_run _ ?_ (.const (.slice none 0 0)) (.tmp 48) _ _ ?_ _ _ ?_ ?_ _ _ (r1 _) ?_); rfl; rfl; (focus (first | (simp [Act.eval]; done) | (simp [Act.eval, Act.put]; done))); (focus (first | (simp [Act.eval]; done) | (simp [Act.eval, Act.put]; done))))
            | (go_at_call 10; refine P2.mono ?_; rintro e v2 ⟨rfl, hT2⟩; have P3 := P4.out v2 hT2)
            | (go_at_call 11; refine P3.mono ?_; rintro e v3 ⟨rfl, hT3⟩))
          clear P2 P3 P4 hT2 r1 j0 j1
          generalize s.fits x = kn
          have cL := hT3.lenP
          have cR := hT3.lenR
          have cD := hT3.dropP
          have cE := hT3.dropR
          have FIN : Aside (Tr0 w v3 p (s.add x) so2 (s.add x)) := hT3.zero
          generalize (s.add x) = sN at *
          generalize sN.o.length = mm at cL cR
          generalize sN.D = dd at cD cE
          clear hT hT1 k0 hT3
          go_wp2_with fail
          refine cL.mono ?_
          rintro e v9 ⟨rfl, rfl⟩
          go_wp2_with fail
          refine cR.mono ?_
          rintro e v9 ⟨rfl, rfl⟩
          go_wp2_with fail
          refine cD.mono ?_
          rintro e v9 ⟨rfl, rfl⟩
          go_wp2_with fail
          refine cE.mono ?_
          rintro e v9 ⟨rfl, rfl⟩
          go_wp2
          go_roundg (len - (i + 1))
          case measure => omega
          case rel => exact ⟨i + 1, sN, so2, by go_num, by omega, Nat.le_refl _, FIN⟩
        · by_cases hw1 : way = 1
          · subst hw1
            have P2 := hT1.takeP n
            have P4 := Lib.hid (fun v' (A : Option Addr) (x1 : List UInt8) (h : TrX w v' p (s.take n) so2 s q ⟨1, n, x⟩ B d A x1) => h.takeR n NB.out)
            have j0 : v1.drew.cell? ⟨q, 1, none⟩ = some (.int .i64 n) := hT1.cells.2.1
            obtain ⟨T, hTT⟩ : ∃ T, T = s.takeL n := ⟨_, rfl⟩
            rw [← hTT] at P2 P4
            clear hTT
            go_wp2_with fail
            go_region_held (fun w' => w'.cell? ⟨q, 1, none⟩ = some (.int .i64 n)) (first | exact j0 | exact (TrX.cells (by assumption)).2.1) (first
              | (go_at_call 12; refine P2.mono ?_; rintro e v2 ⟨A1, c1, rfl, hT2⟩; have P3 := P4.out v2 A1 T hT2; have u1 := run_conv v2 A1 c1 T hT2.res; unfold strV at u1)
              | (go_at_call 13; refine P3.mono ?_; rintro e v3 ⟨A2, c2, rfl, r2, hT3⟩; have u2 := run_conv v3 A2 c2 T r2; have u3 := run_conv v3 A1 c1 T hT3.res; unfold strV at u2 u3))
            all_goals
              clear P2 P3 P4 hT2 j0
              have cL := hT3.lenP
              have cR := hT3.lenR
              have cD := hT3.dropP
              have cE := hT3.dropR
              have FIN : Aside (Tr0 w v3 p (s.take n) so2 (s.take n)) := hT3.zero
              generalize (s.take n) = sN at *
              generalize sN.o.length = mm at cL cR
              generalize sN.D = dd at cD cE
              clear hT hT1 k0 hT3
              go_wp2_with fail
              refine cL.mono ?_
              rintro e v9 ⟨rfl, rfl⟩
              go_wp2_with fail
              refine cR.mono ?_
              rintro e v9 ⟨rfl, rfl⟩
              go_wp2_with fail
              refine cD.mono ?_
              rintro e v9 ⟨rfl, rfl⟩
              go_wp2_with fail
              refine cE.mono ?_
              rintro e v9 ⟨rfl, rfl⟩
              go_wp2
              go_roundg (len - (i + 1))
              case measure => omega
              case rel => exact ⟨i + 1, sN, so2, by go_num, by omega, Nat.le_refl _, FIN⟩
          · have hb0 : (way == 0) = false := by simpa using hw0
            have hb1 : (way == 1) = false := by simpa using hw1
            by_cases hw2 : way = 2
            · subst hw2
              clear hb0 hb1
              have P2 := hT.clearP
              clear hT1
              go_wp2_with fail
              refine P2.mono ?_
              rintro e v2 ⟨rfl, hT2⟩
              have P3 := hT2.clearR
              clear P2 hT2 k0
              go_wp2_with fail
              refine P3.mono ?_
              rintro e v3 ⟨rfl, hT3⟩
              clear P3
              generalize s.gone = fb
              have cL := hT3.lenP
              have cR := hT3.lenR
              have cD := hT3.dropP
              have cE := hT3.dropR
              have FIN : Aside (Tr0 w v3 p s.clear so2 s.clear) := hT3.zero
              generalize s.clear = sN at *
              generalize sN.o.length = mm at cL cR
              generalize sN.D = dd at cD cE
              clear hT hT3
              go_wp2_with fail
              refine cL.mono ?_
              rintro e v9 ⟨rfl, rfl⟩
              go_wp2_with fail
              refine cR.mono ?_
              rintro e v9 ⟨rfl, rfl⟩
              go_wp2_with fail
              refine cD.mono ?_
              rintro e v9 ⟨rfl, rfl⟩
              go_wp2_with fail
              refine cE.mono ?_
              rintro e v9 ⟨rfl, rfl⟩
              go_wp2
              go_roundg (len - (i + 1))
              case measure => omega
              case rel => exact ⟨i + 1, sN, so2, by go_num, by omega, Nat.le_refl _, FIN⟩
            · have hb2 : (way == 2) = false := by simpa using hw2
              have cL := hT.lenP
              have cR := hT.lenR
              have cD := hT.dropP
              have cE := hT.dropR
              have FIN : Aside (Tr0 w v1 p s so2 s) := hT.zero
              obtain ⟨sN, hsN⟩ : ∃ z, z = s := ⟨_, rfl⟩
              rw [← hsN] at cL cR cD cE FIN
              generalize sN.o.length = mm at cL cR
              generalize sN.D = dd at cD cE
              clear hT hT1 hsN
              go_wp2_with fail
              refine cL.mono ?_
              rintro e v9 ⟨rfl, rfl⟩
              go_wp2_with fail
              refine cR.mono ?_
              rintro e v9 ⟨rfl, rfl⟩
              go_wp2_with fail
              refine cD.mono ?_
              rintro e v9 ⟨rfl, rfl⟩
              go_wp2_with fail
              refine cE.mono ?_
              rintro e v9 ⟨rfl, rfl⟩
              go_wp2
              go_roundg (len - (i + 1))
              case measure => omega
              case rel => exact ⟨i + 1, sN, so2, by go_num, by omega, Nat.le_refl _, FIN⟩
      · have hxz : (100 : Int) < (x.length : Int) := by omega
        have FIN := Lib.hid (show Below w.heap.size w (wr.alloc (.cells #[.int .i64 way, .int .i64 n, .slice B x.length d] 30)) from HT.out.bel.alloc HT.out.bel.size _)
        clear HT
        go_wp2
        go_ret
        exact ⟨rfl, FIN.out⟩
    · have hltz : ¬ (i : Int) < (len : Int) := by omega
      have FIN : Aside (Below w.heap.size w wr) := HT.out.bel
      go_wp2
      go_ret
      exact ⟨rfl, FIN.out⟩
theorem RingPlays_far (room : Int) (A : Option Addr) (len cap : Nat) (hl : 100 < len) (hc : len ≤ maxLen) (w : World) :
    Calls Try.prog 3 #[.int .i64 room, .slice A len cap] w fun e w' => e = .returned (.bool true) ∧ Below w.heap.size w w' := by
  have al := alive_calls w
  have g1 : 100 < (len : Int) := by omega
  unfold maxLen at hc
  go_enter Try.func3, Try.ntmps3
  go_wp2_with fail
  refine al.mono ?_
  rintro e W ⟨rfl, bel⟩
  have FIN := Lib.hid bel
  clear al bel
  go_wp2
  go_ret
  exact ⟨rfl, FIN.out⟩
theorem RingPlays_walk (a0 : Int) (a1 : Option Addr) (len1 cap1 : Nat) (w : World) (w0 : (Lit.int .i64 a0).wf = true) (h : IsActs w a1 len1 cap1) :
    Calls Try.prog 3 #[.int .i64 a0, .slice a1 len1 cap1] w fun e w' => e = .returned (.bool true) ∧ Below w.heap.size w w' := by
  obtain ⟨ls, rfl, h1, h2, hr⟩ := h
  by_cases hl : ls.length ≤ 100
  · exact RingPlays_main a0 a1 cap1 ls hl w hr
  · exact RingPlays_far a0 a1 ls.length cap1 (by omega) (by omega) w
end Go.Proofs.Ytpjhehfhpeclhaa

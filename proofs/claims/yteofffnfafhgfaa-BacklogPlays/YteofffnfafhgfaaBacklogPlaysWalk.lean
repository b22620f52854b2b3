/- The law BacklogPlays, walked. Condition: the slice reads as its calls. -/
import Derived.Test.YteofffnfafhgfaaLogTri
import Derived.Deep.LoopGhost
import Derived.Deep.RegionHeld
namespace Go.Proofs.Yteofffnfafhgfaa
open Go.RowKit
set_option linter.unusedVariables false

set_option maxRecDepth 20000 in
set_option maxHeartbeats 4000000 in
theorem BacklogPlays_main (m W0 Q : Int) (A : Option Addr) (cap : Nat) (ls : List ActP) (hl : ls.length ≤ 100) (w : World) (hr : RdP w A ls) :
    Calls Try.prog 3 #[.int .i64 m, .int .i64 W0, .int .i64 Q, .slice A ls.length cap] w fun e w' => e = .returned (.bool true) ∧ Below w.heap.size w w' := by
  have HR := Lib.hid hr
  obtain ⟨len, hlen⟩ : ∃ n, n = ls.length := ⟨_, rfl⟩
  rw [← hlen] at hl ⊢
  have HL := Lib.hid hlen
  clear hr hlen
  have g1 : ¬ (100 : Int) < (len : Int) := by omega
  have NM := fun n v => num_calls n v
  go_enter Try.func3, Try.ntmps3
  go_wp2_with fail
  refine (alive_calls w).mono ?_
  rintro e W ⟨rfl, bel⟩
  obtain ⟨w3, hw3⟩ : ∃ w3, ((W.alloc (.cells (lgc (Lg.new m W0 Q).m (Lg.new m W0 Q).W (Lg.new m W0 Q).Q 0 0 none 0 0) 53)).alloc (.cells (lgc (Lg.new 8 1 2).m (Lg.new 8 1 2).W (Lg.new 8 1 2).Q 0 0 none 0 0) 53)).alloc (.cells (rlc (Lg.new m W0 Q).m (Lg.new m W0 Q).W (Lg.new m W0 Q).Q 0 none 0 0 none 0 0) 58) = w3 := ⟨_, rfl⟩
  have hF : Tr0 w w3 W.heap.size (Lg.new m W0 Q) (Lg.new 8 1 2) (Lg.new m W0 Q) := by rw [← hw3]; exact Tr0.start bel m W0 Q 8 1 2
  have c1 := lgNew_calls m W0 Q W
  have c2 := lgNew_calls 8 1 2 (W.alloc (.cells (lgc (Lg.new m W0 Q).m (Lg.new m W0 Q).W (Lg.new m W0 Q).Q 0 0 none 0 0) 53))
  have c3 := rlNew_calls m W0 Q ((W.alloc (.cells (lgc (Lg.new m W0 Q).m (Lg.new m W0 Q).W (Lg.new m W0 Q).Q 0 0 none 0 0) 53)).alloc (.cells (lgc (Lg.new 8 1 2).m (Lg.new 8 1 2).W (Lg.new 8 1 2).Q 0 0 none 0 0) 53))
  rw [show (W.alloc (.cells (lgc (Lg.new m W0 Q).m (Lg.new m W0 Q).W (Lg.new m W0 Q).Q 0 0 none 0 0) 53)).heap.size = W.heap.size + 1 by simp] at c2
  rw [hw3, show ((W.alloc (.cells (lgc (Lg.new m W0 Q).m (Lg.new m W0 Q).W (Lg.new m W0 Q).Q 0 0 none 0 0) 53)).alloc (.cells (lgc (Lg.new 8 1 2).m (Lg.new 8 1 2).W (Lg.new 8 1 2).Q 0 0 none 0 0) 53)).heap.size = W.heap.size + 2 by simp] at c3
  obtain ⟨p, hp⟩ : ∃ p, p = W.heap.size := ⟨_, rfl⟩
  rw [← hp] at c1 c2 c3 hF
  have H0 : Aside (Tr0 w w3 p (Lg.new m W0 Q) (Lg.new 8 1 2) (Lg.new m W0 Q)) := hF
  clear hF hw3 hp
  go_wp2_with fail
  refine c1.mono ?_
  rintro e w' ⟨rfl, rfl⟩
  go_wp2_with fail
  refine c2.mono ?_
  rintro e w' ⟨rfl, rfl⟩
  go_wp2_with fail
  refine c3.mono ?_
  rintro e w' ⟨rfl, rfl⟩
  clear c1 c2 c3 bel
  go_wp2_with fail
  go_loopg [13] len (fun kx s13 wr => ∃ (i : Nat) (s so : Lg), s13 = .int .i64 i ∧ i ≤ len ∧ len - i ≤ kx ∧ Aside (Tr0 w wr p s so s))
  case atStart => exact ⟨0, Lg.new m W0 Q, Lg.new 8 1 2, rfl, by omega, by omega, H0⟩
  case round =>
    clear H0
    obtain ⟨i, s, so, rfl, hil, hkx, HT⟩ := hrel
    by_cases hlt : i < len
    · have hltz : (i : Int) < (len : Int) := by omega
      obtain ⟨b, off, rfl, hbw, k0, k1, hnb, B, d, k4, rdx, hxd, hdm⟩ := RdP.at_ (j := i) HR.out (by rw [← HL.out]; exact hlt)
      generalize ls.getD i ActP.zero = a at *
      obtain ⟨way, n, x⟩ := a
      simp only at k0 k1 k4 rdx hxd hnb
      have q0 := (HT.out.bel.cell (p := ⟨b, off + i * 3, none⟩) hbw).trans k0
      have q1 := (HT.out.bel.cell (p := ⟨b, off + i * 3 + 1, none⟩) hbw).trans k1
      have q4 := (HT.out.bel.cell (p := ⟨b, off + i * 3 + 2, none⟩) hbw).trans k4
      have RX := Lib.hid rdx
      have NB := Lib.hid hnb
      have hd63 : d ≤ 9223372036854775807 := by unfold maxLen at hdm; omega
      clear k0 k1 k4 hbw rdx hdm hxd hnb
      by_cases hx : x.length ≤ 60
      · have hxz : ¬ (60 : Int) < (x.length : Int) := by omega
        have H1 : TrA w (wr.alloc (.cells #[.int .i64 way, .int .i64 n, .slice B x.length d] 30)) p s so s wr.heap.size ⟨way, n, x⟩ B d := HT.out.call ⟨way, n, x⟩ B d
        have P1 := (TrX.beside H1 (laid_below _ [1])).addO (some ⟨_, 0, none⟩) 1 [1] (laid_rd _ [1]) (by decide)
        rw [show (wr.alloc (.cells #[.int .i64 way, .int .i64 n, .slice B x.length d] 30)).heap.size = wr.heap.size + 1 by simp] at P1
        clear HT H1
        go_wp2_with fail
        refine P1.mono ?_
        rintro e v0 ⟨rfl, hT0⟩
        have P2 := hT0.nextO
        clear P1 q0 q1 q4 hT0
        generalize so.addE = kk
        go_wp2_with fail
        refine P2.mono ?_
        rintro e v1 ⟨ri, rA, rn, rc, rz, rfl, hT⟩
        clear P2
        generalize wr.heap.size = q at hT ⊢
        generalize (so.add [1]).next = so2 at hT
        have k0 := hT.cells.1
        simp only at k0
        by_cases hw0 : way = 0
        · subst hw0
          have hT1 := hT.drewN 1
          obtain ⟨A1, c1, V1, r1, m1, b1, kk1⟩ := app_nil (V := v1.drew) (d := d) (show Rd v1.drew B x from RX.out.below hT1.bel) rfl (by omega)
          have hV : TrX w V1 p s so2 s q ⟨0, n, x⟩ B d none [] := TrX.beside hT1 b1
          have P2 := hV.addP A1 c1 x m1.rd (by omega)
          have P4 := Lib.hid (fun v2 (h : TrX w v2 p (s.add x) so2 s q ⟨0, n, x⟩ B d none []) => h.addR B d x (RX.out.below h.bel) (by omega))
          have j0 : v1.drew.cell? ⟨q, 2, none⟩ = some (.slice B x.length d) := hT1.cells.2.2
          have j1 : V1.cell? ⟨q, 2, none⟩ = some (.slice B x.length d) := hV.cells.2.2
          clear m1 b1 kk1 hV
          go_wp2_with fail
          go_region_held_law (fun w' => w'.cell? ⟨q, 2, none⟩ = some (.slice B x.length d)) (first | exact j0 | exact j1 | exact (TrX.cells (by assumption)).2.2) (first
            | ((with_reducible refine step_append_run _ ?_ (.const (.slice none 0 0)) (.tmp 72) _ _ ?_ _ _ ?_ ?_ _ _ (r1 _) ?_); rfl; rfl; (focus (first | (simp [Act.eval]; done) | (simp [Act.eval, Act.put]; done))); (focus (first | (simp [Act.eval]; done) | (simp [Act.eval, Act.put]; done))))
            | (go_at_call 10; refine P2.mono ?_; rintro e v2 ⟨rfl, hT2⟩; have P3 := P4.out v2 hT2)
            | (go_at_call 12; refine (NM _ _).mono ?_; rintro e v2 ⟨rfl, rfl⟩)
            | (go_at_call 13; refine P3.mono ?_; rintro e v3 ⟨rfl, hT3⟩))
          clear P2 P3 P4 hT2 r1 j0 j1
          generalize s.addE = kn
          obtain ⟨sN, hsN⟩ : ∃ sN, sN = (s.add x) := ⟨_, rfl⟩
          rw [← hsN] at hT3
          have hnn : sN.out.length ≤ 1000000 := by have h1 := Lg.out_len sN; have h2 := hT3.okP; have h3 := h2.nl; have h4 := h2.len; omega
          have cO := hT3.outP
          have HS := Lib.hid (fun v (u1 u2 : Nat) (B1 B2 : Option Addr) (e1 e2 : Nat) (r1 : NOwn 3 .i64 v u1 B1 e1 sN.out) (r2 : NOwn 3 .i64 v u2 B2 e2 sN.out) => sameNat_calls r1 r2 hnn)
          clear hT hT1 k0 hT3 hsN
          go_wp2_with fail
          refine cO.mono ?_
          rintro e y1 ⟨Aa, ca, rfl, na, hT9⟩
          have cQ := hT9.outR na
          clear cO hT9 na
          go_wp2_with fail
          refine cQ.mono ?_
          rintro e y2 ⟨Ab, cb, rfl, nb, na, hT9⟩
          have cS := HS.out y2 _ _ _ _ ca cb na nb
          have H9 := Lib.hid hT9
          clear cQ HS na nb hT9 hnn
          generalize sN.out.length = ol at cS ⊢
          go_wp2_with fail
          refine cS.mono ?_
          rintro e y3 ⟨rfl, qd, rfl⟩
          have cL := (H9.out.drewN qd).lenP
          have cR := (H9.out.drewN qd).lenR
          clear cS
          generalize sN.l.length = ll at cL cR
          go_wp2_with fail
          refine cL.mono ?_
          rintro e y4 ⟨rfl, rfl⟩
          go_wp2_with fail
          refine cR.mono ?_
          rintro e y4 ⟨rfl, qe, rfl⟩
          have FIN : Aside (Tr0 w (y2.drewN (qd + qe)) p sN so2 sN) := (H9.out.drewN (qd + qe)).zero
          clear cL cR H9
          go_wp2
          go_roundg (len - (i + 1))
          case measure => omega
          case rel => exact ⟨i + 1, sN, so2, by go_num, by omega, Nat.le_refl _, FIN⟩
        · have hb0 : (way == 0) = false := by simpa using hw0
          by_cases hw1 : way = 1
          · subst hw1
            have P2 := hT.nextP
            have P4 := Lib.hid (fun v' (A : Option Addr) (h : TrX w v' p s.next so2 s q ⟨1, n, x⟩ B d A s.nextX) => h.nextR)
            clear hb0
            go_wp2_with fail
            refine P2.mono ?_
            rintro e v2 ⟨A2, c2, rfl, hT2⟩
            have P3 := P4.out v2 _ hT2
            clear P2 P4 hT2
            go_wp2_with fail
            refine P3.mono ?_
            rintro e v3 ⟨A3, c3, rfl, r3, hT3⟩
            have u1 := run_conv v3 A2 c2 _ hT3.res
            have u2 := run_conv v3 A3 c3 _ r3
            unfold strV at u1 u2
            have hT4 := hT3.plain
            clear P3 r3 k0 hT
            generalize s.nextX = X at u1 u2 ⊢
            generalize s.nextN = fn
            generalize s.stop = fs
            obtain ⟨sN, hsN⟩ : ∃ sN, sN = s.next := ⟨_, rfl⟩
            rw [← hsN] at hT4
            have hnn : sN.out.length ≤ 1000000 := by have h1 := Lg.out_len sN; have h2 := hT4.okP; have h3 := h2.nl; have h4 := h2.len; omega
            have cO := hT4.outP
            have HS := Lib.hid (fun v (u1 u2 : Nat) (B1 B2 : Option Addr) (e1 e2 : Nat) (r1 : NOwn 3 .i64 v u1 B1 e1 sN.out) (r2 : NOwn 3 .i64 v u2 B2 e2 sN.out) => sameNat_calls r1 r2 hnn)
            clear hT3 hT4 hsN
            go_wp2_with fail
            refine cO.mono ?_
            rintro e y1 ⟨Aa, ca, rfl, na, hT9⟩
            have cQ := hT9.outR na
            clear cO hT9 na
            go_wp2_with fail
            refine cQ.mono ?_
            rintro e y2 ⟨Ab, cb, rfl, nb, na, hT9⟩
            have cS := HS.out y2 _ _ _ _ ca cb na nb
            have H9 := Lib.hid hT9
            clear cQ HS na nb hT9 hnn
            generalize sN.out.length = ol at cS ⊢
            go_wp2_with fail
            refine cS.mono ?_
            rintro e y3 ⟨rfl, qd, rfl⟩
            have cL := (H9.out.drewN qd).lenP
            have cR := (H9.out.drewN qd).lenR
            clear cS
            generalize sN.l.length = ll at cL cR
            go_wp2_with fail
            refine cL.mono ?_
            rintro e y4 ⟨rfl, rfl⟩
            go_wp2_with fail
            refine cR.mono ?_
            rintro e y4 ⟨rfl, qe, rfl⟩
            have FIN : Aside (Tr0 w (y2.drewN (qd + qe)) p sN so2 sN) := (H9.out.drewN (qd + qe)).zero
            clear cL cR H9
            go_wp2
            go_roundg (len - (i + 1))
            case measure => omega
            case rel => exact ⟨i + 1, sN, so2, by go_num, by omega, Nat.le_refl _, FIN⟩
          · have hb1 : (way == 1) = false := by simpa using hw1
            by_cases hw2 : way = 2
            · subst hw2
              clear hb0 hb1
              have k1 := hT.cells.2.1
              simp only at k1
              have P2 := hT.ackP n NB.out
              have P4 := Lib.hid (fun v' (h : TrX w v' p (s.ack n) so2 s q ⟨2, n, x⟩ B d none []) => h.ackR n NB.out)
              go_wp2_with fail
              refine P2.mono ?_
              rintro e v2 ⟨rfl, hT2⟩
              have k2 := hT2.cells.2.1
              simp only at k2
              have P3 := P4.out v2 hT2
              clear P2 P4 hT2 k1
              go_wp2_with fail
              refine P3.mono ?_
              rintro e v3 ⟨rfl, hT4⟩
              clear P3 k2 k0 hT
              generalize s.ackN n = fn
              generalize s.hit n = fs
              obtain ⟨sN, hsN⟩ : ∃ sN, sN = (s.ack n) := ⟨_, rfl⟩
              rw [← hsN] at hT4
              have hnn : sN.out.length ≤ 1000000 := by have h1 := Lg.out_len sN; have h2 := hT4.okP; have h3 := h2.nl; have h4 := h2.len; omega
              have cO := hT4.outP
              have HS := Lib.hid (fun v (u1 u2 : Nat) (B1 B2 : Option Addr) (e1 e2 : Nat) (r1 : NOwn 3 .i64 v u1 B1 e1 sN.out) (r2 : NOwn 3 .i64 v u2 B2 e2 sN.out) => sameNat_calls r1 r2 hnn)
              clear  hT4 hsN
              go_wp2_with fail
              refine cO.mono ?_
              rintro e y1 ⟨Aa, ca, rfl, na, hT9⟩
              have cQ := hT9.outR na
              clear cO hT9 na
              go_wp2_with fail
              refine cQ.mono ?_
              rintro e y2 ⟨Ab, cb, rfl, nb, na, hT9⟩
              have cS := HS.out y2 _ _ _ _ ca cb na nb
              have H9 := Lib.hid hT9
              clear cQ HS na nb hT9 hnn
              generalize sN.out.length = ol at cS ⊢
              go_wp2_with fail
              refine cS.mono ?_
              rintro e y3 ⟨rfl, qd, rfl⟩
              have cL := (H9.out.drewN qd).lenP
              have cR := (H9.out.drewN qd).lenR
              clear cS
              generalize sN.l.length = ll at cL cR
              go_wp2_with fail
              refine cL.mono ?_
              rintro e y4 ⟨rfl, rfl⟩
              go_wp2_with fail
              refine cR.mono ?_
              rintro e y4 ⟨rfl, qe, rfl⟩
              have FIN : Aside (Tr0 w (y2.drewN (qd + qe)) p sN so2 sN) := (H9.out.drewN (qd + qe)).zero
              clear cL cR H9
              go_wp2
              go_roundg (len - (i + 1))
              case measure => omega
              case rel => exact ⟨i + 1, sN, so2, by go_num, by omega, Nat.le_refl _, FIN⟩
            · have hb2 : (way == 2) = false := by simpa using hw2
              by_cases hw3 : way = 3
              · subst hw3
                clear hb0 hb1 hb2
                have k1 := hT.cells.2.1
                simp only at k1
                have P2 := hT.bodyP n NB.out
                have P4 := Lib.hid (fun v' (A : Option Addr) (h : TrX w v' p s so2 s q ⟨3, n, x⟩ B d A (s.body n)) => h.bodyR n NB.out)
                go_wp2_with fail
                refine P2.mono ?_
                rintro e v2 ⟨A2, c2, rfl, hT2⟩
                have k2 := hT2.cells.2.1
                simp only at k2
                have P3 := P4.out v2 _ hT2
                clear P2 P4 hT2 k1
                go_wp2_with fail
                refine P3.mono ?_
                rintro e v3 ⟨A3, c3, rfl, r3, hT3⟩
                have u1 := run_conv v3 A2 c2 _ hT3.res
                have u2 := run_conv v3 A3 c3 _ r3
                unfold strV at u1 u2
                have hT4 := hT3.plain
                clear P3 r3 k2 k0 hT
                generalize s.body n = X at u1 u2 ⊢
                generalize s.has n = fs
                obtain ⟨sN, hsN⟩ : ∃ sN, sN = s := ⟨_, rfl⟩
                rw [← hsN] at hT4
                have hnn : sN.out.length ≤ 1000000 := by have h1 := Lg.out_len sN; have h2 := hT4.okP; have h3 := h2.nl; have h4 := h2.len; omega
                have cO := hT4.outP
                have HS := Lib.hid (fun v (u1 u2 : Nat) (B1 B2 : Option Addr) (e1 e2 : Nat) (r1 : NOwn 3 .i64 v u1 B1 e1 sN.out) (r2 : NOwn 3 .i64 v u2 B2 e2 sN.out) => sameNat_calls r1 r2 hnn)
                clear hT3 hT4 hsN
                go_wp2_with fail
                refine cO.mono ?_
                rintro e y1 ⟨Aa, ca, rfl, na, hT9⟩
                have cQ := hT9.outR na
                clear cO hT9 na
                go_wp2_with fail
                refine cQ.mono ?_
                rintro e y2 ⟨Ab, cb, rfl, nb, na, hT9⟩
                have cS := HS.out y2 _ _ _ _ ca cb na nb
                have H9 := Lib.hid hT9
                clear cQ HS na nb hT9 hnn
                generalize sN.out.length = ol at cS ⊢
                go_wp2_with fail
                refine cS.mono ?_
                rintro e y3 ⟨rfl, qd, rfl⟩
                have cL := (H9.out.drewN qd).lenP
                have cR := (H9.out.drewN qd).lenR
                clear cS
                generalize sN.l.length = ll at cL cR
                go_wp2_with fail
                refine cL.mono ?_
                rintro e y4 ⟨rfl, rfl⟩
                go_wp2_with fail
                refine cR.mono ?_
                rintro e y4 ⟨rfl, qe, rfl⟩
                have FIN : Aside (Tr0 w (y2.drewN (qd + qe)) p sN so2 sN) := (H9.out.drewN (qd + qe)).zero
                clear cL cR H9
                go_wp2
                go_roundg (len - (i + 1))
                case measure => omega
                case rel => exact ⟨i + 1, sN, so2, by go_num, by omega, Nat.le_refl _, FIN⟩
              · have hb3 : (way == 3) = false := by simpa using hw3
                by_cases hw4 : way = 4
                · subst hw4
                  clear hb0 hb1 hb2 hb3
                  have P2 := hT.clearP
                  go_wp2_with fail
                  refine P2.mono ?_
                  rintro e v2 ⟨rfl, hT2⟩
                  have P3 := hT2.clearR
                  clear P2 hT2 k0
                  go_wp2_with fail
                  refine P3.mono ?_
                  rintro e v3 ⟨rfl, hT4⟩
                  clear P3 hT
                  generalize s.l.length = fb
                  obtain ⟨sN, hsN⟩ : ∃ sN, sN = s.clear := ⟨_, rfl⟩
                  rw [← hsN] at hT4
                  have hnn : sN.out.length ≤ 1000000 := by have h1 := Lg.out_len sN; have h2 := hT4.okP; have h3 := h2.nl; have h4 := h2.len; omega
                  have cO := hT4.outP
                  have HS := Lib.hid (fun v (u1 u2 : Nat) (B1 B2 : Option Addr) (e1 e2 : Nat) (r1 : NOwn 3 .i64 v u1 B1 e1 sN.out) (r2 : NOwn 3 .i64 v u2 B2 e2 sN.out) => sameNat_calls r1 r2 hnn)
                  clear  hT4 hsN
                  go_wp2_with fail
                  refine cO.mono ?_
                  rintro e y1 ⟨Aa, ca, rfl, na, hT9⟩
                  have cQ := hT9.outR na
                  clear cO hT9 na
                  go_wp2_with fail
                  refine cQ.mono ?_
                  rintro e y2 ⟨Ab, cb, rfl, nb, na, hT9⟩
                  have cS := HS.out y2 _ _ _ _ ca cb na nb
                  have H9 := Lib.hid hT9
                  clear cQ HS na nb hT9 hnn
                  generalize sN.out.length = ol at cS ⊢
                  go_wp2_with fail
                  refine cS.mono ?_
                  rintro e y3 ⟨rfl, qd, rfl⟩
                  have cL := (H9.out.drewN qd).lenP
                  have cR := (H9.out.drewN qd).lenR
                  clear cS
                  generalize sN.l.length = ll at cL cR
                  go_wp2_with fail
                  refine cL.mono ?_
                  rintro e y4 ⟨rfl, rfl⟩
                  go_wp2_with fail
                  refine cR.mono ?_
                  rintro e y4 ⟨rfl, qe, rfl⟩
                  have FIN : Aside (Tr0 w (y2.drewN (qd + qe)) p sN so2 sN) := (H9.out.drewN (qd + qe)).zero
                  clear cL cR H9
                  go_wp2
                  go_roundg (len - (i + 1))
                  case measure => omega
                  case rel => exact ⟨i + 1, sN, so2, by go_num, by omega, Nat.le_refl _, FIN⟩
                · have hb4 : (way == 4) = false := by simpa using hw4
                  obtain ⟨sN, hsN⟩ : ∃ sN, sN = s := ⟨_, rfl⟩
                  rw [← hsN] at hT
                  have hnn : sN.out.length ≤ 1000000 := by have h1 := Lg.out_len sN; have h2 := hT.okP; have h3 := h2.nl; have h4 := h2.len; omega
                  have cO := hT.outP
                  have HS := Lib.hid (fun v (u1 u2 : Nat) (B1 B2 : Option Addr) (e1 e2 : Nat) (r1 : NOwn 3 .i64 v u1 B1 e1 sN.out) (r2 : NOwn 3 .i64 v u2 B2 e2 sN.out) => sameNat_calls r1 r2 hnn)
                  clear  hT hsN
                  go_wp2_with fail
                  refine cO.mono ?_
                  rintro e y1 ⟨Aa, ca, rfl, na, hT9⟩
                  have cQ := hT9.outR na
                  clear cO hT9 na
                  go_wp2_with fail
                  refine cQ.mono ?_
                  rintro e y2 ⟨Ab, cb, rfl, nb, na, hT9⟩
                  have cS := HS.out y2 _ _ _ _ ca cb na nb
                  have H9 := Lib.hid hT9
                  clear cQ HS na nb hT9 hnn
                  generalize sN.out.length = ol at cS ⊢
                  go_wp2_with fail
                  refine cS.mono ?_
                  rintro e y3 ⟨rfl, qd, rfl⟩
                  have cL := (H9.out.drewN qd).lenP
                  have cR := (H9.out.drewN qd).lenR
                  clear cS
                  generalize sN.l.length = ll at cL cR
                  go_wp2_with fail
                  refine cL.mono ?_
                  rintro e y4 ⟨rfl, rfl⟩
                  go_wp2_with fail
                  refine cR.mono ?_
                  rintro e y4 ⟨rfl, qe, rfl⟩
                  have FIN : Aside (Tr0 w (y2.drewN (qd + qe)) p sN so2 sN) := (H9.out.drewN (qd + qe)).zero
                  clear cL cR H9
                  go_wp2
                  go_roundg (len - (i + 1))
                  case measure => omega
                  case rel => exact ⟨i + 1, sN, so2, by go_num, by omega, Nat.le_refl _, FIN⟩
      · have hxz : (60 : Int) < (x.length : Int) := by omega
        have FIN := Lib.hid (show Below w.heap.size w (wr.alloc (.cells #[.int .i64 way, .int .i64 n, .slice B x.length d] 30)) from HT.out.bel.alloc HT.out.bel.size _)
        clear HT
        go_wp2
        go_ret
        exact ⟨rfl, FIN.out⟩
    · have hltz : ¬ (i : Int) < (len : Int) := by omega
      have FIN : Aside (Below w.heap.size w wr) := HT.out.bel
      go_wp2
      go_ret
      exact ⟨rfl, FIN.out⟩
set_option maxRecDepth 20000 in
theorem BacklogPlays_far (m W0 Q : Int) (A : Option Addr) (len cap : Nat) (hl : 100 < len) (hc : len ≤ maxLen) (w : World) :
    Calls Try.prog 3 #[.int .i64 m, .int .i64 W0, .int .i64 Q, .slice A len cap] w fun e w' => e = .returned (.bool true) ∧ Below w.heap.size w w' := by
  have al := alive_calls w
  have g1 : 100 < (len : Int) := by omega
  unfold maxLen at hc
  go_enter Try.func3, Try.ntmps3
  go_wp2_with fail
  refine al.mono ?_
  rintro e W ⟨rfl, bel⟩
  have FIN := Lib.hid bel
  clear al bel
  go_wp2
  go_ret
  exact ⟨rfl, FIN.out⟩
theorem BacklogPlays_walk (a0 a1 a2 : Int) (a3 : Option Addr) (len3 cap3 : Nat) (w : World) (w0 : (Lit.int .i64 a0).wf = true) (w1 : (Lit.int .i64 a1).wf = true) (w2 : (Lit.int .i64 a2).wf = true) (h : IsActs w a3 len3 cap3) :
    Calls Try.prog 3 #[.int .i64 a0, .int .i64 a1, .int .i64 a2, .slice a3 len3 cap3] w fun e w' => e = .returned (.bool true) ∧ Below w.heap.size w w' := by
  obtain ⟨ls, rfl, h1, h2, hr⟩ := h
  by_cases hl : ls.length ≤ 100
  · exact BacklogPlays_main a0 a1 a2 a3 cap3 ls hl w hr
  · exact BacklogPlays_far a0 a1 a2 a3 ls.length cap3 (by omega) (by omega) w
end Go.Proofs.Yteofffnfafhgfaa

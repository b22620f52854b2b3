/- The law ReorderPlays, walked. Condition: the slice reads as its calls. -/
import Derived.Test.YtbalhpffdgbdgaaOrdTri
import Derived.Deep.LoopGhost
import Derived.Deep.RegionHeld
namespace Go.Proofs.Ytbalhpffdgbdgaa
open Go.RowKit
set_option linter.unusedVariables false

set_option maxRecDepth 20000 in
set_option maxHeartbeats 4000000 in
theorem ReorderPlays_main (m W0 : Int) (A : Option Addr) (cap : Nat) (ls : List ActP) (hl : ls.length ≤ 100) (w : World) (hr : RdP w A ls) :
    Calls Try.prog 3 #[.int .i64 m, .int .i64 W0, .slice A ls.length cap] w fun e w' => e = .returned (.bool true) ∧ Below w.heap.size w w' := by
  have HR := Lib.hid hr
  obtain ⟨len, hlen⟩ : ∃ n, n = ls.length := ⟨_, rfl⟩
  rw [← hlen] at hl ⊢
  have HL := Lib.hid hlen
  clear hr hlen
  have g1 : ¬ (100 : Int) < (len : Int) := by omega
  go_enter Try.func3, Try.ntmps3
  go_wp2_with fail
  refine (alive_calls w).mono ?_
  rintro e V ⟨rfl, bel⟩
  have c1 := OdOne.new bel m W0
  clear bel
  go_wp2_with fail
  refine c1.mono ?_
  rintro e w1 ⟨rfl, h1⟩
  have c2 := h1.new2 8 1
  clear c1 h1
  generalize V.heap.size + 1 = p at *
  go_wp2_with fail
  refine c2.mono ?_
  rintro e w2 ⟨rfl, h2⟩
  have c3 := h2.new3 m W0
  clear c2 h2
  generalize w1.heap.size + 1 = po at *
  go_wp2_with fail
  refine c3.mono ?_
  rintro e w3 ⟨rfl, h3⟩
  clear c3
  generalize w2.heap.size = pr at *
  have H0 : Aside (Tr0 w w3 p po pr (Od.new m W0) (Od.new 8 1) (Od.new m W0) ∧ (Od.new m W0).all ≤ 0 ∧ (Od.new 8 1).all ≤ 0) := ⟨h3, Nat.le_refl 0, Nat.le_refl 0⟩
  clear h3
  go_wp2_with fail
  go_loopg [11] len (fun kx s11 wr => ∃ (i : Nat) (s so : Od), s11 = .int .i64 i ∧ i ≤ len ∧ len - i ≤ kx ∧ Aside (Tr0 w wr p po pr s so s ∧ s.all ≤ i ∧ so.all ≤ i))
  case atStart => exact ⟨0, Od.new m W0, Od.new 8 1, rfl, by omega, by omega, H0⟩
  case round =>
    clear H0
    obtain ⟨i, s, so, rfl, hil, hkx, HO⟩ := hrel
    obtain ⟨HT, hb1, hb2⟩ := HO.out
    clear HO
    have HBD := Lib.hid hb1
    have HBI := Lib.hid hb2
    have hall : s.all ≤ 100 := by omega
    have halo : so.all ≤ 100 := by omega
    by_cases hlt : i < len
    · have hltz : (i : Int) < (len : Int) := by omega
      obtain ⟨b, off, rfl, hbw, k0, k1, hnb, B, d, k4, rdx, hxd, hdm⟩ := RdP.at_ (j := i) HR.out (by rw [← HL.out]; exact hlt)
      generalize ls.getD i ActP.zero = a at *
      obtain ⟨way, n, x⟩ := a
      simp only at k0 k1 k4 rdx hxd hnb
      have q0 := (HT.bel.cell (p := ⟨b, off + i * 3, none⟩) hbw).trans k0
      have q1 := (HT.bel.cell (p := ⟨b, off + i * 3 + 1, none⟩) hbw).trans k1
      have q4 := (HT.bel.cell (p := ⟨b, off + i * 3 + 2, none⟩) hbw).trans k4
      have RX := Lib.hid rdx
      have NB := Lib.hid hnb
      have hd63 : d ≤ 9223372036854775807 := by unfold maxLen at hdm; omega
      clear k0 k1 k4 hbw rdx hdm hxd hnb hb1 hb2
      by_cases hx : x.length ≤ 60
      · have hxz : ¬ (60 : Int) < (x.length : Int) := by omega
        have H1 : TrA w (wr.alloc (.cells #[.int .i64 way, .int .i64 n, .slice B x.length d] 30)) p po pr s so s wr.heap.size ⟨way, n, x⟩ B d := HT.call ⟨way, n, x⟩ B d
        have P1 := (TrA.beside H1 (laid_below _ [1])).putO (by omega) 0 (by unfold I64; omega) (some ⟨_, 0, none⟩) 1 [1] (laid_rd _ [1]) (by decide)
        rw [show (wr.alloc (.cells #[.int .i64 way, .int .i64 n, .slice B x.length d] 30)).heap.size = wr.heap.size + 1 by simp] at P1
        have HBO := Lib.hid (show (so.put 0 [1]).all ≤ i + 1 from Nat.le_trans (Od.put_all so 0 [1]) (by have := HBI.out; omega))
        clear HT H1 halo
        go_wp2_with fail
        refine P1.mono ?_
        rintro e v1 ⟨rfl, hT⟩
        clear P1 q0 q1 q4
        generalize so.putN 0 [1] = kk
        generalize wr.heap.size = q at hT ⊢
        generalize so.put 0 [1] = so2 at hT HBO
        have k0 := hT.cells.1
        simp only at k0
        by_cases hw0 : way = 0
        · subst hw0
          have hT1 := hT.drewN 1
          obtain ⟨A1, c1, V1, r1, m1, b1, kk1⟩ := app_nil (V := v1.drew) (d := d) (show Rd v1.drew B x from RX.out.below hT1.bel) rfl (by omega)
          have hV : TrA w V1 p po pr s so2 s q ⟨0, n, x⟩ B d := TrA.beside hT1 b1
          have P2 := hV.putP (by omega) n NB.out A1 c1 x m1.rd (by omega)
          have P4 := Lib.hid (fun v2 (h : TrA w v2 p po pr (s.put n x) so2 s q ⟨0, n, x⟩ B d) => h.putR (by omega) n NB.out B d x (RX.out.below h.bel) (by omega))
          have j0 : v1.drew.cell? ⟨q, 1, none⟩ = some (.int .i64 n) ∧ v1.drew.cell? ⟨q, 2, none⟩ = some (.slice B x.length d) := hT1.cells.2
          have j1 : V1.cell? ⟨q, 1, none⟩ = some (.int .i64 n) ∧ V1.cell? ⟨q, 2, none⟩ = some (.slice B x.length d) := hV.cells.2
          clear m1 b1 kk1 hV
          go_wp2_with fail
          go_region_held_law (fun w' => w'.cell? ⟨q, 1, none⟩ = some (.int .i64 n) ∧ w'.cell? ⟨q, 2, none⟩ = some (.slice B x.length d)) (first | exact j0 | exact j1 | exact (TrA.cells (by assumption)).2) (first
            | ((with_reducible refine step_append_run _ ?_ (.const (.slice none 0 0)) (.tmp 58) _ _ ?_ _ _ ?_ ?_ _ _ (r1 _) ?_); rfl; rfl; (focus (first | (simp [Act.eval]; done) | (simp [Act.eval, Act.put]; done))); (focus (first | (simp [Act.eval]; done) | (simp [Act.eval, Act.put]; done))))
            | (go_at_call 10; refine P2.mono ?_; rintro e v2 ⟨rfl, hT2⟩; have P3 := P4.out v2 hT2)
            | (go_at_call 11; refine P3.mono ?_; rintro e v3 ⟨rfl, hT3⟩))
          clear P2 P3 P4 hT2 r1 j0 j1
          generalize s.putN n x = kn
          obtain ⟨sN, hsN⟩ : ∃ sN, sN = (s.put n x) := ⟨_, rfl⟩
          rw [← hsN] at hT3
          have cA := hT3.nextP
          have cB := hT3.nextR
          have cC := hT3.gapP
          have cD := hT3.gapR
          have FIN : Aside (Tr0 w _ p po pr sN so2 sN ∧ sN.all ≤ i + 1 ∧ so2.all ≤ i + 1) := ⟨hT3.zero, by rw [hsN]; exact Nat.le_trans (Od.put_all s n x) (by have := HBD.out; omega), HBO.out⟩
          clear hT hT1 k0 hT3 hsN
          generalize sN.e = ee at cA cB
          generalize sN.gap = gg at cC cD
          go_wp2_with fail
          refine cA.mono ?_
          rintro e y1 ⟨rfl, hy⟩
          obtain rfl := hy.symm
          clear hy cA
          go_wp2_with fail
          refine cB.mono ?_
          rintro e y2 ⟨rfl, hy⟩
          obtain rfl := hy.symm
          clear hy cB
          go_wp2_with fail
          refine cC.mono ?_
          rintro e y3 ⟨rfl, hy⟩
          obtain rfl := hy.symm
          clear hy cC
          go_wp2_with fail
          refine cD.mono ?_
          rintro e y4 ⟨rfl, hy⟩
          obtain rfl := hy.symm
          clear hy cD
          go_wp2
          go_roundg (len - (i + 1))
          case measure => omega
          case rel => exact ⟨i + 1, sN, so2, by go_num, by omega, Nat.le_refl _, FIN⟩
        · have hb0 : (way == 0) = false := by simpa using hw0
          by_cases hw1 : way = 1
          · subst hw1
            have P2 := hT.takeP
            have P4 := Lib.hid (fun v' (h : TrA w v' p po pr s.take so2 s q ⟨1, n, x⟩ B d) => h.takeR (by omega))
            clear hb0
            go_wp2_with fail
            refine P2.mono ?_
            rintro e v2 ⟨A2, c2, rfl, rd2, hT2⟩
            have P3 := P4.out v2 hT2
            clear P2 P4 hT2
            go_wp2_with fail
            refine P3.mono ?_
            rintro e v3 ⟨A3, c3, rfl, r3, hT4, kp⟩
            have u1 := run_conv v3 A2 c2 _ (kp _ _ rd2)
            have u2 := run_conv v3 A3 c3 _ r3
            unfold strV at u1 u2
            clear P3 r3 rd2 kp k0 hT
            generalize s.takeX = X at u1 u2 ⊢
            generalize s.takeB = fs
            obtain ⟨sN, hsN⟩ : ∃ sN, sN = s.take := ⟨_, rfl⟩
            rw [← hsN] at hT4
            have cA := hT4.nextP
            have cB := hT4.nextR
            have cC := hT4.gapP
            have cD := hT4.gapR
            have FIN : Aside (Tr0 w _ p po pr sN so2 sN ∧ sN.all ≤ i + 1 ∧ so2.all ≤ i + 1) := ⟨hT4.zero, by rw [hsN]; exact Nat.le_trans (Od.take_all s) (by have := HBD.out; omega), HBO.out⟩
            clear  hT4 hsN
            generalize sN.e = ee at cA cB
            generalize sN.gap = gg at cC cD
            go_wp2_with fail
            refine cA.mono ?_
            rintro e y1 ⟨rfl, hy⟩
            obtain rfl := hy.symm
            clear hy cA
            go_wp2_with fail
            refine cB.mono ?_
            rintro e y2 ⟨rfl, hy⟩
            obtain rfl := hy.symm
            clear hy cB
            go_wp2_with fail
            refine cC.mono ?_
            rintro e y3 ⟨rfl, hy⟩
            obtain rfl := hy.symm
            clear hy cC
            go_wp2_with fail
            refine cD.mono ?_
            rintro e y4 ⟨rfl, hy⟩
            obtain rfl := hy.symm
            clear hy cD
            go_wp2
            go_roundg (len - (i + 1))
            case measure => omega
            case rel => exact ⟨i + 1, sN, so2, by go_num, by omega, Nat.le_refl _, FIN⟩
          · have hb1 : (way == 1) = false := by simpa using hw1
            by_cases hw2 : way = 2
            · subst hw2
              clear hb0 hb1
              have P2 := hT.clearP
              go_wp2_with fail
              refine P2.mono ?_
              rintro e v2 ⟨rfl, hT2⟩
              have P3 := hT2.clearR
              clear P2 hT2 k0
              go_wp2_with fail
              refine P3.mono ?_
              rintro e v3 ⟨rfl, hT4⟩
              clear P3 hT
              obtain ⟨sN, hsN⟩ : ∃ sN, sN = s.clear := ⟨_, rfl⟩
              rw [← hsN] at hT4
              have cA := hT4.nextP
              have cB := hT4.nextR
              have cC := hT4.gapP
              have cD := hT4.gapR
              have FIN : Aside (Tr0 w _ p po pr sN so2 sN ∧ sN.all ≤ i + 1 ∧ so2.all ≤ i + 1) := ⟨hT4.zero, by rw [hsN]; exact Nat.le_trans (Od.clear_all s) (by have := HBD.out; omega), HBO.out⟩
              clear  hT4 hsN
              generalize sN.e = ee at cA cB
              generalize sN.gap = gg at cC cD
              go_wp2_with fail
              refine cA.mono ?_
              rintro e y1 ⟨rfl, hy⟩
              obtain rfl := hy.symm
              clear hy cA
              go_wp2_with fail
              refine cB.mono ?_
              rintro e y2 ⟨rfl, hy⟩
              obtain rfl := hy.symm
              clear hy cB
              go_wp2_with fail
              refine cC.mono ?_
              rintro e y3 ⟨rfl, hy⟩
              obtain rfl := hy.symm
              clear hy cC
              go_wp2_with fail
              refine cD.mono ?_
              rintro e y4 ⟨rfl, hy⟩
              obtain rfl := hy.symm
              clear hy cD
              go_wp2
              go_roundg (len - (i + 1))
              case measure => omega
              case rel => exact ⟨i + 1, sN, so2, by go_num, by omega, Nat.le_refl _, FIN⟩
            · have hb2 : (way == 2) = false := by simpa using hw2
              obtain ⟨sN, hsN⟩ : ∃ sN, sN = s := ⟨_, rfl⟩
              rw [← hsN] at hT
              have cA := hT.nextP
              have cB := hT.nextR
              have cC := hT.gapP
              have cD := hT.gapR
              have FIN : Aside (Tr0 w _ p po pr sN so2 sN ∧ sN.all ≤ i + 1 ∧ so2.all ≤ i + 1) := ⟨hT.zero, by rw [hsN]; exact Nat.le_trans (Nat.le_refl _) (by have := HBD.out; omega), HBO.out⟩
              clear  hT hsN
              generalize sN.e = ee at cA cB
              generalize sN.gap = gg at cC cD
              go_wp2_with fail
              refine cA.mono ?_
              rintro e y1 ⟨rfl, hy⟩
              obtain rfl := hy.symm
              clear hy cA
              go_wp2_with fail
              refine cB.mono ?_
              rintro e y2 ⟨rfl, hy⟩
              obtain rfl := hy.symm
              clear hy cB
              go_wp2_with fail
              refine cC.mono ?_
              rintro e y3 ⟨rfl, hy⟩
              obtain rfl := hy.symm
              clear hy cC
              go_wp2_with fail
              refine cD.mono ?_
              rintro e y4 ⟨rfl, hy⟩
              obtain rfl := hy.symm
              clear hy cD
              go_wp2
              go_roundg (len - (i + 1))
              case measure => omega
              case rel => exact ⟨i + 1, sN, so2, by go_num, by omega, Nat.le_refl _, FIN⟩
      · have hxz : (60 : Int) < (x.length : Int) := by omega
        have FIN := Lib.hid (show Below w.heap.size w (wr.alloc (.cells #[.int .i64 way, .int .i64 n, .slice B x.length d] 30)) from HT.bel.alloc HT.bel.size _)
        clear HT
        go_wp2
        go_ret
        exact ⟨rfl, FIN.out⟩
    · have hltz : ¬ (i : Int) < (len : Int) := by omega
      have FIN : Aside (Below w.heap.size w wr) := HT.bel
      clear HT
      go_wp2
      go_ret
      exact ⟨rfl, FIN.out⟩
set_option maxRecDepth 20000 in
theorem ReorderPlays_far (m W0 : Int) (A : Option Addr) (len cap : Nat) (hl : 100 < len) (hc : len ≤ maxLen) (w : World) :
    Calls Try.prog 3 #[.int .i64 m, .int .i64 W0, .slice A len cap] w fun e w' => e = .returned (.bool true) ∧ Below w.heap.size w w' := by
  have al := alive_calls w
  have g1 : 100 < (len : Int) := by omega
  unfold maxLen at hc
  go_enter Try.func3, Try.ntmps3
  go_wp2_with fail
  refine al.mono ?_
  rintro e W ⟨rfl, bel⟩
  have FIN := Lib.hid bel
  clear al bel
  go_wp2
  go_ret
  exact ⟨rfl, FIN.out⟩
theorem ReorderPlays_walk (a0 a1 : Int) (a2 : Option Addr) (len2 cap2 : Nat) (w : World) (w0 : (Lit.int .i64 a0).wf = true) (w1 : (Lit.int .i64 a1).wf = true) (h : IsActs w a2 len2 cap2) :
    Calls Try.prog 3 #[.int .i64 a0, .int .i64 a1, .slice a2 len2 cap2] w fun e w' => e = .returned (.bool true) ∧ Below w.heap.size w w' := by
  obtain ⟨ls, rfl, h1, h2, hr⟩ := h
  by_cases hl : ls.length ≤ 100
  · exact ReorderPlays_main a0 a1 a2 cap2 ls hl w hr
  · exact ReorderPlays_far a0 a1 a2 ls.length cap2 (by omega) (by omega) w
end Go.Proofs.Ytbalhpffdgbdgaa

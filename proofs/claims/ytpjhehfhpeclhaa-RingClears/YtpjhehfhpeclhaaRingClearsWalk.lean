/- The law RingClears, walked. Condition: the slice reads as its rows. -/
import Derived.Test.YtpjhehfhpeclhaaRngAlive
import Derived.Test.YtpjhehfhpeclhaaRngEnd
import Derived.Test.YtpjhehfhpeclhaaBytesRowsC
import Derived.Deep.LoopGhost
namespace Go.Proofs.Ytpjhehfhpeclhaa
open Go.RowKit
set_option linter.unusedVariables false

set_option maxRecDepth 20000 in
set_option maxHeartbeats 1000000 in
theorem RingClears_main (A : Option Addr) (c1 : Nat) (ls : List (List UInt8)) (n : Int) (hn : 0 ≤ n) (w : World) (hr : RdR w A ls) (hl : ls.length ≤ 20) :
    Calls Try.prog 5 #[.slice A ls.length c1, .int .i64 n] w fun e w' => e = .returned (.bool true) ∧ Below w.heap.size w w' := by
  have RA := Lib.hid hr
  obtain ⟨len, hlen⟩ : ∃ n, n = ls.length := ⟨_, rfl⟩
  rw [← hlen] at hl ⊢
  have HL := Lib.hid hlen
  clear hr hlen
  have g3 : ¬ (20 : Int) < (len : Int) := by omega
  have g4 : ¬ n < 0 := by omega
  go_enter Try.func5, Try.ntmps5
  go_wp2_with fail
  refine (alive_calls w).mono ?_
  rintro e W ⟨rfl, hb⟩
  have NW := new_calls 1048576 W
  have H1 : Aside (One w (W.alloc (.cells (rc (newRng 1048576).R none 0 0 0 none 0 0 0) 41)) (fun k => k = W.heap.size) W.heap.size (newRng 1048576)) := One.fresh hb 1048576
  clear hb
  go_wp2_with fail
  refine NW.mono ?_
  rintro e w1 ⟨rfl, rfl⟩
  clear NW
  generalize (W.alloc (.cells (rc (newRng 1048576).R none 0 0 0 none 0 0 0) 41)) = w1 at *
  generalize W.heap.size = p at *
  go_wp2_with fail
  go_loopg [7, 8] len (fun kx s7 s8 wr => ∃ (i : Nat) (J : List UInt8) (F : Nat → Prop), s7 = .string ⟨J.toArray⟩ ∧ s8 = .int .i64 i ∧ i ≤ len ∧ len - i ≤ kx ∧ J.length ≤ 200 * i ∧ Aside (One w wr F p ⟨1048576, full (ls.take i), false, 0⟩ ∧ J = (ls.take i).flatten))
  case atStart => exact ⟨0, [], _, rfl, rfl, by omega, by omega, by simp, H1.out, rfl⟩
  case round =>
    clear H1
    obtain ⟨i, J, F, rfl, rfl, hil, hkx, hJi, HO⟩ := hrel
    by_cases hlt : i < len
    · have hltz : (i : Int) < (len : Int) := by omega
      have hlt' : i < ls.length := by rw [← HL.out]; exact hlt
      have TN := Lib.hid (take_next hlt')
      obtain ⟨b, off, B, d, rfl, hbw, k0, rdx, hxd, hdm⟩ := RdR.at_ (k := i) RA.out hlt'
      generalize ls.getD i [] = x at *
      have KK := Lib.hid (show ∀ v, Below w.heap.size w v → v.cell? ⟨b, off + i, none⟩ = some (.slice B x.length d) ∧ Rd v B x from fun v hv => ⟨(hv.cell (p := ⟨b, off + i, none⟩) hbw).trans k0, rdx.below hv⟩)
      have hdm' : d ≤ 9223372036854775807 := by unfold maxLen at hdm; omega
      have HD := Lib.hid hdm
      clear k0 rdx hbw hdm hlt'
      obtain ⟨q0, _⟩ := KK.out wr HO.out.1.bel
      by_cases hx : x.length ≤ 200
      · have hxz : ¬ (200 : Int) < (x.length : Int) := by omega
        have P1 := HO.out.1.add B d x (KK.out wr HO.out.1.bel).2 hxd HD.out
        rw [full_add (ls.take i) x 1048576 0 (by rw [← HO.out.2]; omega), ← TN.out] at P1
        have HJ2 := Lib.hid (show J ++ x = (ls.take (i + 1)).flatten by rw [TN.out, HO.out.2]; simp)
        clear HO TN
        generalize Rng.fits _ x = r1 at P1
        go_wp2_with fail
        refine P1.mono ?_
        rintro e w2 ⟨rfl, h2, _⟩
        clear P1 q0
        generalize more _ _ _ = F2 at h2
        obtain ⟨q0, q2⟩ := KK.out w2 h2.bel
        have cv := run_conv w2 B d x q2
        unfold strV at cv
        have sc1 := str_cat J x
        have s1 : ¬ 9223372036854775807 < J.length + x.length := by omega
        have FIN : Aside (One w w2 F2 p ⟨1048576, full (ls.take (i + 1)), false, 0⟩ ∧ J ++ x = (ls.take (i + 1)).flatten) := ⟨h2, HJ2.out⟩
        have HJ := Lib.hid (len_app J x)
        clear h2 q2 HJ2
        go_wp2
        go_roundg (len - (i + 1))
        case measure => omega
        case rel => exact ⟨i + 1, J ++ x, F2, rfl, by go_num, by omega, Nat.le_refl _, by have := HJ.out; omega, FIN⟩
      · have hxz : (200 : Int) < (x.length : Int) := by omega
        have FIN := Lib.hid HO.out.1.bel
        go_wp2
        go_ret
        exact ⟨rfl, FIN.out⟩
    · have hltz : ¬ (i : Int) < (len : Int) := by omega
      have hJ2 : J.length ≤ 4000 := by omega
      have et : ls.take i = ls := List.take_of_length_le (by rw [← HL.out]; omega)
      rw [et] at HO
      have TK := HO.out.1.take n
      obtain ⟨M, N, hM, hN, hMN, hE⟩ := clear_parts ls 1048576 0 n
      rw [← HO.out.2] at hMN
      have PART := Lib.hid (show Rng.clear (Rng.take ⟨1048576, full ls, false, 0⟩ n) = Rng.clear (Rng.take ⟨1048576, full ls, false, 0⟩ n) ∧ (Rng.clear (Rng.take ⟨1048576, full ls, false, 0⟩ n)).o = M ∧ (Rng.take ⟨1048576, full ls, false, 0⟩ n).gone = N.length from ⟨rfl, hM, hN⟩)
      generalize Rng.takeL ⟨1048576, full ls, false, 0⟩ n = T at *
      generalize Rng.take ⟨1048576, full ls, false, 0⟩ n = s2 at *
      have HMN := Lib.hid hMN
      have HE := Lib.hid hE
      have hJl := congrArg List.length hMN
      rw [List.length_append, List.length_append] at hJl
      have HJL := Lib.hid hJl
      have z0 : ¬ (J.length : Int) < (T.length : Int) := by omega
      have HJF := Lib.hid HO.out.2
      clear HO et hM hN hMN hE hJl hil hkx hJi hlt
      go_wp2_with fail
      refine TK.mono ?_
      rintro e w3 ⟨⟨A9, c9, rfl, own9⟩, h3, _⟩
      have q9 := run_conv w3 A9 c9 T own9.rd
      unfold strV at q9
      have H3 : Aside (One w w3 F p s2) := h3
      clear TK own9 h3
      generalize hEE : en T.length 0 (lens ls) = E at HE
      have HEE := Lib.hid hEE
      clear hEE
      go_wp2_with fail
      go_loopg [10, 11] len (fun kx s10 s11 wr => ∃ (i e : Nat), s10 = .int .i64 (e : Int) ∧ s11 = .int .i64 i ∧ i ≤ len ∧ len - i ≤ kx ∧ e ≤ J.length ∧ w3 = wr ∧ Aside (en T.length e (lens (ls.drop i)) = E ∧ e + (ls.drop i).flatten.length = J.length))
      case atStart => exact ⟨0, 0, rfl, rfl, by omega, by omega, by omega, rfl, by rw [List.drop_zero]; exact HEE.out, by rw [List.drop_zero, HJF.out]; omega⟩
      case round =>
        clear hltz q9 z0 HEE
        obtain ⟨i, e, rfl, rfl, hil, hkx, heJ, rfl, HR⟩ := hrel
        by_cases hgo : i < len ∧ e < T.length
        · obtain ⟨hlt, hek⟩ := hgo
          have hltz : (i : Int) < (len : Int) := by omega
          have hekz : (e : Int) < (T.length : Int) := by omega
          have hlt' : i < ls.length := by rw [← HL.out]; exact hlt
          have DN := drop_next hlt'
          obtain ⟨b, off, B, d, rfl, hbw, k0, rdx, hxd, hdm⟩ := RdR.at_ (k := i) RA.out hlt'
          have HN : Aside (en T.length (e + (ls.getD i []).length) (lens (ls.drop (i + 1))) = E ∧ e + (ls.getD i []).length + (ls.drop (i + 1)).flatten.length = J.length) := by
            have h1 := HR.out.1
            have h2 := HR.out.2
            rw [DN] at h1 h2
            refine ⟨by rw [← h1]; exact (en_step hek _ _).symm, ?_⟩
            rw [List.flatten_cons, List.length_append] at h2
            omega
          generalize ls.getD i [] = x at *
          have q0 := (H3.out.bel.cell (p := ⟨b, off + i, none⟩) hbw).trans k0
          have hdm' : d ≤ 9223372036854775807 := by unfold maxLen at hdm; omega
          have hxJ : e + x.length ≤ J.length := by have := HN.out.2; omega
          clear k0 rdx hbw hdm hlt' DN HR
          go_wp2
          go_roundg (len - (i + 1))
          case measure => omega
          case rel => exact ⟨i + 1, e + x.length, val_int (by omega), by go_num, by omega, Nat.le_refl _, hxJ, rfl, HN⟩
        · have he : e = E := by
            rw [← HR.out.1]
            by_cases h1 : i < len
            · exact (en_done (by omega) _).symm
            · have h2 : ls.drop i = [] := List.drop_eq_nil_of_le (by rw [← HL.out]; omega)
              rw [h2]
              rfl
          subst he
          clear HR hkx
          have HC := Lib.hid PART.out.2
          have CC := H3.out.clear
          rw [HC.out.2] at CC
          have sx : (⟨J.toArray⟩ : ByteArray).extract T.length e = ⟨M.toArray⟩ := by
            rw [HMN.out, HE.out]
            exact str_mid T M N
          have y1 : (T.length : Int) ≤ (e : Int) := by have := HE.out; omega
          have y2 : (e : Int) ≤ (J.length : Int) := by omega
          have y3 : (0 : Int) ≤ (e : Int) := by omega
          have y4 : (0 : Int) ≤ (T.length : Int) := by omega
          have y5 : (J.length : Int) - (e : Int) = (N.length : Int) := by have := HE.out; have := HJL.out; omega
          have REST := Lib.hid (show ∀ w4, ∀ F2 : Nat → Prop, One w w4 F2 p s2.clear → Calls Try.prog 12 #[.pointer (some ⟨p, 0, none⟩), .int .i64 1048576] w4 fun r w5 => ∃ A c, r = .returned (.slice A M.length c) ∧ Rd w5 A M ∧ Below w.heap.size w w5 from fun w4 F2 h4 => by
            refine (h4.take 1048576).mono ?_
            rintro r w5 ⟨⟨A5, c5, rfl, own⟩, h5, _⟩
            have hlim : lim 1048576 s2.clear.o.length = s2.clear.o.length := lim_all (by have h1 := h4.1.ok.1; have h2 := h4.1.ok.2.1; omega)
            have hT : s2.clear.takeL 1048576 = M := by unfold Rng.takeL; rw [hlim, List.take_length, HC.out.1]
            rw [hT] at own ⊢
            exact ⟨A5, c5, rfl, own.rd, h5.bel⟩)
          clear H3 PART HMN HE HJL HC HJF
          by_cases hlt : i < len
          · have hltz : (i : Int) < (len : Int) := by omega
            have hekz : ¬ (e : Int) < (T.length : Int) := by omega
            go_wp2_with fail
            refine CC.mono ?_
            rintro r w4 ⟨rfl, h4, _⟩
            have TK := REST.out w4 _ h4
            clear CC REST h4
            go_wp2_with fail
            refine TK.mono ?_
            rintro r w5 ⟨A5, c5, rfl, rd5, b5⟩
            have q9 := run_conv w5 A5 c5 M rd5
            unfold strV at q9
            have FIN := Lib.hid b5
            clear TK rd5 b5
            go_wp2
            go_ret
            exact ⟨rfl, FIN.out⟩
          · have hltz : ¬ (i : Int) < (len : Int) := by omega
            go_wp2_with fail
            refine CC.mono ?_
            rintro r w4 ⟨rfl, h4, _⟩
            have TK := REST.out w4 _ h4
            clear CC REST h4
            go_wp2_with fail
            refine TK.mono ?_
            rintro r w5 ⟨A5, c5, rfl, rd5, b5⟩
            have q9 := run_conv w5 A5 c5 M rd5
            unfold strV at q9
            have FIN := Lib.hid b5
            clear TK rd5 b5
            go_wp2
            go_ret
            exact ⟨rfl, FIN.out⟩
theorem RingClears_far (A : Option Addr) (len c1 : Nat) (n : Int) (w : World) (hl : len ≤ 9223372036854775807) (h : 20 < len ∨ n < 0) :
    Calls Try.prog 5 #[.slice A len c1, .int .i64 n] w fun e w' => e = .returned (.bool true) ∧ Below w.heap.size w w' := by
  have G := Lib.hid h
  clear h
  by_cases g3 : (20 : Int) < (len : Int)
  · go_enter Try.func5, Try.ntmps5
    go_wp2_with fail
    refine (alive_calls w).mono ?_
    rintro e W ⟨rfl, hb⟩
    go_wp2
    go_ret
    exact ⟨rfl, hb⟩
  · have g4 : n < 0 := by have := G.out; omega
    go_enter Try.func5, Try.ntmps5
    go_wp2_with fail
    refine (alive_calls w).mono ?_
    rintro e W ⟨rfl, hb⟩
    go_wp2
    go_ret
    exact ⟨rfl, hb⟩
theorem RingClears_walk (a1 : Option Addr) (len1 cap1 : Nat) (a2 : Int) (w : World) (h1 : IsRows w a1 len1 cap1) (w2 : (Lit.int .i64 a2).wf = true) :
    Calls Try.prog 5 #[.slice a1 len1 cap1, .int .i64 a2] w fun e w' => e = .returned (.bool true) ∧ Below w.heap.size w w' := by
  obtain ⟨ls, rfl, hc1, hm1, hr1⟩ := h1
  unfold maxLen at hm1
  by_cases h : 20 < ls.length ∨ a2 < 0
  · exact RingClears_far a1 ls.length cap1 a2 w (by omega) h
  · exact RingClears_main a1 cap1 ls a2 (by omega) w hr1 (by omega)
end Go.Proofs.Ytpjhehfhpeclhaa

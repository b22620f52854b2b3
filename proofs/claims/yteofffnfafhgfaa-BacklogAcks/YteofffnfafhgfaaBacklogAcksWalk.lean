/- The law BacklogAcks, walked. No condition. -/
import Derived.Test.YteofffnfafhgfaaLogLine
import Derived.Test.YteofffnfafhgfaaSerRefNum
import Derived.Deep.LoopGhost
namespace Go.Proofs.Yteofffnfafhgfaa
open Go.RowKit
set_option linter.unusedVariables false

theorem refNext128_calls (k : Nat) (w : World) (h2 : k < 128) :
    Calls Try.prog 26 #[.int .i64 (k : Int), .int .i64 128] w fun e w' => e = .returned (.int .i64 (((k + 1) % 128 : Nat) : Int)) ∧ w' = w := by
  refine (refNext_calls k 128 w (by unfold I64; omega)).mono ?_
  rintro e w' ⟨rfl, rfl⟩
  unfold snxt
  rw [slim_mid (by omega) (by omega)]
  exact ⟨ret_int (by omega), rfl⟩
set_option maxRecDepth 20000 in
set_option maxHeartbeats 1000000 in
theorem BacklogAcks_main (W out start : Nat) (k : Int) (hk : I64 k) (h1 : 1 ≤ W) (h2 : W ≤ 16) (h3 : out ≤ W) (h4 : start ≤ 300) (w : World) :
    Calls Try.prog 5 #[.int .i64 (W : Int), .int .i64 (out : Int), .int .i64 (start : Int), .int .i64 k] w fun e w' => e = .returned (.bool true) ∧ Below w.heap.size w w' := by
  have K := Lib.hid hk
  obtain ⟨k1, k2⟩ := hk
  have i1 : ¬ (W : Int) < 1 := by omega
  have i2 : ¬ (16 : Int) < (W : Int) := by omega
  have i3 : ¬ (W : Int) < (out : Int) := by omega
  have i4 : ¬ (300 : Int) < (start : Int) := by omega
  go_enter Try.func5, Try.ntmps5
  go_wp2_with fail
  refine (alive_calls w).mono ?_
  rintro e V ⟨rfl, hb⟩
  have NW := lgNew_calls 128 W 1 V
  have H1 : Aside (LgS w (V.alloc (.cells (lgc (Lg.new 128 W 1).m (Lg.new 128 W 1).W (Lg.new 128 W 1).Q 0 0 none 0 0) 53)) V.heap.size 128 W 0 0 none) := LgS.fresh (M := 128) hb (by decide) (by decide) h1 (by omega)
  clear hb
  go_wp2_with fail
  refine NW.mono ?_
  rintro e w1 ⟨rfl, rfl⟩
  clear NW
  generalize V.alloc (.cells (lgc (Lg.new 128 W 1).m (Lg.new 128 W 1).W (Lg.new 128 W 1).Q 0 0 none 0 0) 53) = w1 at *
  generalize V.heap.size = p at *
  go_wp2_with fail
  go_loopg [11, 12, 13, 14] start (fun kx s11 s12 s13 s14 wr => ∃ i : Nat, s11 = .int .i64 (i : Int) ∧ i ≤ start ∧ start - i ≤ kx ∧ Aside (LgS w wr p 128 W (i % 128) 0 none))
  case atStart => exact ⟨0, rfl, by omega, by omega, H1.out⟩
  case round =>
    clear H1
    obtain ⟨i, rfl, hil, hkx, HO⟩ := hrel
    by_cases hlt : i < start
    · have hltz : (i : Int) < (start : Int) := by omega
      have P1 := (HO.out.beside (laid_below wr [1])).add (some ⟨wr.heap.size, 0, none⟩) 1 [1] (laid_rd wr [1]) (by decide)
      have HW := Lib.hid h1
      clear HO
      go_wp2_with fail
      refine P1.mono ?_
      rintro e w2 ⟨rfl, h2'⟩
      have P2 := h2'.next (by omega)
      rw [show (i % 128 + 0) % 128 = i % 128 by omega] at P2
      clear P1 h2'
      go_wp2_with fail
      refine P2.mono ?_
      rintro e w3 ⟨A3, c3, rfl, _, h3'⟩
      have P3 := refNext128_calls (i % 128) w3 (by omega)
      clear P2
      go_wp2_with fail
      refine P3.mono ?_
      rintro e w4 ⟨rfl, rfl⟩
      have P4 := h3'.ack (d := 1) (by omega) (by decide)
      rw [show (i % 128 + 1) % 128 = (i + 1) % 128 by omega] at P4
      rw [show (i % 128 + 1) % 128 = (i + 1) % 128 by omega]
      clear P3 h3'
      go_wp2_with fail
      refine P4.mono ?_
      rintro e w5 ⟨rfl, h5'⟩
      have FIN : Aside (LgS w w5 p 128 W ((i + 1) % 128) 0 none) := h5'
      clear P4 h5'
      go_wp2
      go_roundg (start - (i + 1))
      case measure => omega
      case rel => exact ⟨i + 1, by go_num, by omega, Nat.le_refl _, FIN⟩
    · have hltz : ¬ (i : Int) < (start : Int) := by omega
      have : i = start := by omega
      subst this
      clear hil hkx hlt
      go_wp2_with fail
      go_loopg [15] out (fun kx s15 wr => ∃ j : Nat, s15 = .int .i64 (j : Int) ∧ j ≤ out ∧ out - j ≤ kx ∧ Aside (LgS w wr p 128 W (i % 128) j none))
      case atStart => exact ⟨0, rfl, by omega, by omega, HO⟩
      case round =>
        clear HO hltz
        obtain ⟨j, rfl, hjl, hkx, HO⟩ := hrel
        by_cases hlt : j < out
        · have hltz : (j : Int) < (out : Int) := by omega
          have P1 := (HO.out.beside (laid_below wr [2])).add (some ⟨wr.heap.size, 0, none⟩) 1 [2] (laid_rd wr [2]) (by decide)
          clear HO
          go_wp2_with fail
          refine P1.mono ?_
          rintro e w2 ⟨rfl, h2'⟩
          have P2 := h2'.next (by omega)
          clear P1 h2'
          go_wp2_with fail
          refine P2.mono ?_
          rintro e w3 ⟨A3, c3, rfl, _, h3'⟩
          have FIN : Aside (LgS w w3 p 128 W (i % 128) (j + 1) none) := h3'
          clear P2 h3'
          go_wp2
          go_roundg (out - (j + 1))
          case measure => omega
          case rel => exact ⟨j + 1, by go_num, by omega, Nat.le_refl _, FIN⟩
        · have hltz : ¬ (j : Int) < (out : Int) := by omega
          have : j = out := by omega
          subst this
          clear hjl hkx hlt
          go_wp2_with fail
          go_loopg [16, 17] (j + 1) (fun kx s16 s17 wz => ∃ (q : Nat) (D : Int), s16 = .int .i64 D ∧ s17 = .int .i64 (q : Int) ∧ q ≤ j + 1 ∧ j + 1 - q ≤ kx ∧ wr = wz ∧ Aside ((D = -1 ∧ ∀ d, d < q → k ≠ (((i % 128 + d) % 128 : Nat) : Int)) ∨ ∃ d, d < q ∧ D = (d : Int) ∧ k = (((i % 128 + d) % 128 : Nat) : Int)))
          case atStart => exact ⟨0, -1, rfl, rfl, by omega, by omega, rfl, .inl ⟨rfl, fun d hd => by omega⟩⟩
          case round =>
            clear hltz
            obtain ⟨q, D, rfl, rfl, hql, hkx, rfl, HD⟩ := hrel
            by_cases hlt : q ≤ j
            · have hltz : (q : Int) ≤ (j : Int) := by omega
              by_cases hkq : k = (((i % 128 + q) % 128 : Nat) : Int)
              · have hb : (k == ((i : Int) + (q : Int)) % 128) = true := by simp; omega
                have HD2 : Aside (((q : Int) = -1 ∧ ∀ d, d < q + 1 → k ≠ (((i % 128 + d) % 128 : Nat) : Int)) ∨ ∃ d, d < q + 1 ∧ (q : Int) = (d : Int) ∧ k = (((i % 128 + d) % 128 : Nat) : Int)) := .inr ⟨q, by omega, rfl, hkq⟩
                clear HD hkq HO
                go_wp2
                go_roundg (j + 1 - (q + 1))
                case measure => omega
                case rel => exact ⟨q + 1, q, rfl, by go_num, by omega, Nat.le_refl _, rfl, HD2⟩
              · have hb : (k == ((i : Int) + (q : Int)) % 128) = false := by simp; omega
                have HD2 : Aside ((D = -1 ∧ ∀ d, d < q + 1 → k ≠ (((i % 128 + d) % 128 : Nat) : Int)) ∨ ∃ d, d < q + 1 ∧ D = (d : Int) ∧ k = (((i % 128 + d) % 128 : Nat) : Int)) := by
                  rcases HD.out with ⟨hd1, hd2⟩ | ⟨d, hd1, hd2, hd3⟩
                  · exact .inl ⟨hd1, fun d hd => by
                      rcases Nat.lt_or_ge d q with h | h
                      · exact hd2 d h
                      · rw [show d = q by omega]; exact hkq⟩
                  · exact .inr ⟨d, by omega, hd2, hd3⟩
                clear HD hkq HO
                go_wp2
                go_roundg (j + 1 - (q + 1))
                case measure => omega
                case rel => exact ⟨q + 1, D, rfl, by go_num, by omega, Nat.le_refl _, rfl, HD2⟩
            · have hltz : ¬ (q : Int) ≤ (j : Int) := by omega
              have hq : q = j + 1 := by omega
              rcases HD.out with ⟨hd1, hd2⟩ | ⟨d, hd1, hd2, hd3⟩
              · have PA := HO.out.ack_no K.out (fun d hd => hd2 d (by omega))
                clear HD HO hd2 hq hlt hkx hql
                subst hd1
                go_wp2_with fail
                refine PA.mono ?_
                rintro e w4 ⟨rfl, h4'⟩
                have PB := h4'.out
                clear PA h4'
                go_wp2_with fail
                refine PB.mono ?_
                rintro e w5 ⟨A5, c5, rfl, h5'⟩
                have FI := Lib.hid h5'.bel
                clear PB h5'
                go_wp2
                go_ret
                exact ⟨rfl, FI.out⟩
              · have PA := HO.out.ack (d := d) (by omega) (by decide)
                rw [← hd3] at PA
                have hdj : d ≤ j := by omega
                clear HD HO hq hlt hkx hql hd3 hd1
                subst hd2
                go_wp2_with fail
                refine PA.mono ?_
                rintro e w4 ⟨rfl, h4'⟩
                have PB := h4'.out
                clear PA h4'
                go_wp2_with fail
                refine PB.mono ?_
                rintro e w5 ⟨A5, c5, rfl, h5'⟩
                have FI := Lib.hid h5'.bel
                clear PB h5'
                have he : ((j - d : Nat) : Int) = (j : Int) - (d : Int) := by omega
                go_wp2
                go_ret
                exact ⟨rfl, FI.out⟩
theorem BacklogAcks_far (W out start k : Int) (h : W < 1 ∨ (1 ≤ W ∧ 16 < W) ∨ (1 ≤ W ∧ W ≤ 16 ∧ out < 0) ∨ (1 ≤ W ∧ W ≤ 16 ∧ 0 ≤ out ∧ W < out) ∨ (1 ≤ W ∧ W ≤ 16 ∧ 0 ≤ out ∧ out ≤ W ∧ start < 0) ∨ (1 ≤ W ∧ W ≤ 16 ∧ 0 ≤ out ∧ out ≤ W ∧ 0 ≤ start ∧ 300 < start)) (w : World) :
    Calls Try.prog 5 #[.int .i64 W, .int .i64 out, .int .i64 start, .int .i64 k] w fun e w' => e = .returned (.bool true) ∧ Below w.heap.size w w' := by
  rcases h with h1 | ⟨h1, h2⟩ | ⟨h1, h2, h3⟩ | ⟨h1, h2, h3, h4⟩ | ⟨h1, h2, h3, h4, h5⟩ | ⟨h1, h2, h3, h4, h5, h6⟩
  all_goals
    go_enter Try.func5, Try.ntmps5
    go_wp2_with fail
    refine (alive_calls w).mono ?_
    rintro e W ⟨rfl, hb⟩
    go_wp2
    go_ret
    exact ⟨rfl, hb⟩
theorem BacklogAcks_walk (a0 a1 a2 a3 : Int) (w0 : (Lit.int .i64 a0).wf = true) (w1 : (Lit.int .i64 a1).wf = true) (w2 : (Lit.int .i64 a2).wf = true) (w3 : (Lit.int .i64 a3).wf = true) (w : World) :
    Calls Try.prog 5 #[.int .i64 a0, .int .i64 a1, .int .i64 a2, .int .i64 a3] w fun e w' => e = .returned (.bool true) ∧ Below w.heap.size w w' := by
  by_cases h : 1 ≤ a0 ∧ a0 ≤ 16 ∧ 0 ≤ a1 ∧ a1 ≤ a0 ∧ 0 ≤ a2 ∧ a2 ≤ 300
  · obtain ⟨h1, h2, h3, h4, h5, h6⟩ := h
    obtain ⟨W, rfl⟩ : ∃ n : Nat, a0 = n := ⟨a0.toNat, by omega⟩
    obtain ⟨n, rfl⟩ : ∃ n : Nat, a1 = n := ⟨a1.toNat, by omega⟩
    obtain ⟨m, rfl⟩ : ∃ m : Nat, a2 = m := ⟨a2.toNat, by omega⟩
    exact BacklogAcks_main W n m a3 (bounds_i64 w3) (by omega) (by omega) (by omega) (by omega) w
  · exact BacklogAcks_far a0 a1 a2 a3 (by omega) w
end Go.Proofs.Yteofffnfafhgfaa

/- The law ReorderSorts, walked. Condition: the slice reads as its numbers. -/
import Derived.Test.YtbalhpffdgbdgaaOrdCame
import Derived.Test.YtbalhpffdgbdgaaIntRows
import Derived.Test.YtbalhpffdgbdgaaI64And
import Derived.Deep.LoopGhost
import Derived.BigQuiet
import Derived.Deep.DeepCutAuto
namespace Go.Proofs.Ytbalhpffdgbdgaa
open Go.RowKit
set_option linter.unusedVariables false

theorem laid_mw (w : World) {k : Nat} (h : k < 65536) : laid w (mw k) = w.alloc (.cells #[.int .u8 ((k : Int) % 256), .int .u8 ((k : Int) / 256)] 5) := by
  have h1 : ((UInt8.ofNat k).toNat : Int) = (k : Int) % 256 := by simp
  have h2 : ((UInt8.ofNat (k / 256)).toNat : Int) = (k : Int) / 256 := by simp; omega
  show w.alloc (.cells #[bv (UInt8.ofNat k), bv (UInt8.ofNat (k / 256))] 5) = _
  unfold bv
  rw [h1, h2]
/-- what stands between two numbers of the row -/
def SS (w v : World) (p g M W n : Nat) (C : Nat → Bool) (N i : Nat) : Prop :=
  ∃ K, SO w v p g (n + 1) ⟨M, W, N % M, K, msgs mw N⟩ C ∧ SI M W n C N K ∧ (⟨M, W, N % M, K, msgs mw N⟩ : Od).all ≤ i
set_option maxRecDepth 20000 in
set_option maxHeartbeats 2000000 in
theorem ReorderSorts_main (M W n : Nat) (A : Option Addr) (cA : Nat) (ts : List Int) (h1 : 8 ≤ M) (h2 : M ≤ 256) (h3 : 1 ≤ W) (h4 : W * 8 ≤ M) (h5 : n ≤ 400) (h6 : ts.length ≤ 800) (w : World) (hr : RdI w A ts) :
    Calls Try.prog 4 #[.int .i64 (M : Int), .int .i64 (W : Int), .int .i64 (n : Int), .slice A ts.length cA] w fun e w' => e = .returned (.bool true) ∧ Below w.heap.size w w' := by
  have HR := Lib.hid hr
  obtain ⟨len, hlen⟩ : ∃ n, n = ts.length := ⟨_, rfl⟩
  rw [← hlen] at h6 ⊢
  have HL := Lib.hid hlen
  clear hr hlen
  have i1 : ¬ (M : Int) < 8 := by omega
  have i2 : ¬ (256 : Int) < (M : Int) := by omega
  have i3 : ¬ (W : Int) < 1 := by omega
  have i4 : ¬ (M : Int) / 8 < (W : Int) := by omega
  have i5 : ¬ (400 : Int) < (n : Int) := by omega
  have i6 : ¬ (800 : Int) < (len : Int) := by omega
  have hw8 : wrap64 ((M : Int) / 8) = (M : Int) / 8 := by unfold wrap64; omega
  go_enter Try.func4, Try.ntmps4
  go_wp2_with fail
  refine (alive_calls w).mono ?_
  rintro e V ⟨rfl, hb⟩
  have NW := OdOne.new hb (M : Int) (W : Int)
  rw [Od.new_eq h1 (by omega) h3 h4] at NW
  clear hb
  go_wp2_with fail
  refine NW.mono ?_
  rintro e w1 ⟨rfl, k1⟩
  clear NW
  generalize V.heap.size + 1 = p at *
  have MB := run_madeB (n + 1) (by omega) w1
  have MB' : (Instr.makeSlice 37 (.int .i64 ((n : Int) + 1)) (.int .i64 ((n : Int) + 1))).run Try.prog w1 = .ok (.slice (some ⟨w1.heap.size, 0, none⟩) (n + 1) (n + 1)) (w1.alloc (.cells (brow (n + 1) (fun _ => false)).toArray 4)) := MB
  have H1 : Aside (SS w (w1.alloc (.cells (brow (n + 1) (fun _ => false)).toArray 4)) p w1.heap.size M W n (fun _ => false) 0 0) :=
    ⟨[], by rw [Nat.zero_mod]; exact SO.made k1 (n + 1), SI.fresh M W n, Nat.le_refl _⟩
  obtain ⟨V2, hV2⟩ : ∃ V2, w1.alloc (.cells (brow (n + 1) (fun _ => false)).toArray 4) = V2 := ⟨_, rfl⟩
  rw [hV2] at MB' H1
  clear k1 i1 i2 i3 i4 i5 i6 hw8 MB hV2
  generalize w1.heap.size = g at *
  go_wp2_with fail
  clear MB'
  go_loopg [11, 13] len (fun kx s11 s13 wr => ∃ (i N : Nat) (C : Nat → Bool), s11 = .int .i64 (N : Int) ∧ s13 = .int .i64 (i : Int) ∧ i ≤ len ∧ len - i ≤ kx ∧ N ≤ n ∧ Aside (SS w wr p g M W n C N i))
  case atStart => exact ⟨0, 0, fun _ => false, rfl, rfl, by omega, by omega, by omega, H1.out⟩
  case round =>
    clear H1
    obtain ⟨i, N, C, rfl, rfl, hil, hkx, hNn, HO⟩ := hrel
    by_cases hlt : i < len
    · have hltz : (i : Int) < (len : Int) := by omega
      obtain ⟨b3, o3, rfl, hb3, k0⟩ := RdI.at_ (k := i) HR.out (by rw [← HL.out]; omega)
      obtain ⟨z, hz, hz15⟩ : ∃ z : Nat, bits .and .i64 (ts.getD i 0) 15 = (z : Int) ∧ z ≤ 15 := by
        rw [i64_and15]
        exact ⟨(ts.getD i 0 % 16).toNat, by omega, by omega⟩
      generalize ts.getD i 0 = t0 at *
      have q0 : wr.cell? ⟨b3, o3 + i, none⟩ = some (.int .i64 t0) := by
        obtain ⟨K, hs, _⟩ := HO.out
        exact (hs.bel.cell (p := ⟨b3, o3 + i, none⟩) hb3).trans k0
      clear k0
      have SAME : Aside (SS w wr p g M W n C N (i + 1)) := by
        obtain ⟨K, hs, hi, ha⟩ := HO.out
        exact ⟨K, hs, hi, by omega⟩
      have hw2 : wrap64 ((M : Int) / 2) = (M : Int) / 2 := by unfold wrap64; omega
      obtain ⟨kk, hkk⟩ : ∃ kk : Int, (N : Int) + (z : Int) - 3 = kk := ⟨_, rfl⟩
      have hk1 : -3 ≤ kk := by omega
      have hk2 : kk ≤ 500 := by omega
      by_cases c1 : kk < 0
      · clear HO
        go_wp2
        go_roundg (len - (i + 1))
        case measure => omega
        case rel => exact ⟨i + 1, N, C, rfl, by go_num, by omega, Nat.le_refl _, by omega, SAME⟩
      · by_cases c2 : (n : Int) ≤ kk
        · clear HO
          go_wp2
          go_roundg (len - (i + 1))
          case measure => omega
          case rel => exact ⟨i + 1, N, C, rfl, by go_num, by omega, Nat.le_refl _, by omega, SAME⟩
        · by_cases c3 : (N : Int) + (W : Int) ≤ kk
          · clear HO
            go_wp2
            go_roundg (len - (i + 1))
            case measure => omega
            case rel => exact ⟨i + 1, N, C, rfl, by go_num, by omega, Nat.le_refl _, by omega, SAME⟩
          · by_cases c4 : kk < (N : Int) - (M : Int) / 2
            · clear HO
              go_wp2
              go_roundg (len - (i + 1))
              case measure => omega
              case rel => exact ⟨i + 1, N, C, rfl, by go_num, by omega, Nat.le_refl _, by omega, SAME⟩
            · obtain ⟨k, rfl⟩ : ∃ k : Nat, kk = (k : Int) := ⟨kk.toNat, by omega⟩
              clear SAME
              obtain ⟨K, hs, hi, ha⟩ := HO.out
              clear HO
              obtain ⟨r, hr⟩ : ∃ r, k % M = r := ⟨_, rfl⟩
              obtain ⟨e4, e5⟩ := mod_int (A := (k : Int)) (a := k) rfl hr
              have hkn : k < n := by omega
              have P1 := (hs.beside (laid_below wr (mw k))).put (by omega) ((k % M : Nat) : Int) (by have := Nat.mod_lt k (show 0 < M by omega); unfold I64; omega) (some ⟨wr.heap.size, 0, none⟩) 2 (mw k) (laid_rd wr (mw k)) (by simp [mw])
              rw [laid_mw wr (show k < 65536 by omega), hr, show (mw k).length = 2 from rfl] at P1
              have PUT := Lib.hid (fun N' (g1 : N ≤ N') g2 g3 => hi.put h3 h4 h1 hkn (by omega) (by omega) (N' := N') g1 g2 g3)
              rw [hr] at PUT
              have HAL := Lib.hid (Nat.le_trans (Od.put_all ⟨M, W, N % M, K, msgs mw N⟩ (r : Int) (mw k)) (Nat.add_le_add_right ha 1))
              have NOT := Lib.hid (show upd C k n = false from by
                cases hc : upd C k n with
                | false => rfl
                | true =>
                  unfold upd at hc
                  split at hc
                  · omega
                  · have := hi.lt n hc
                    omega)
              obtain ⟨gv, hgv⟩ : ∃ gv, gv = (⟨M, W, N % M, K, msgs mw N⟩ : Od).putN (r : Int) (mw k) := ⟨_, rfl⟩
              obtain ⟨s2, hs2⟩ : ∃ s2, s2 = (⟨M, W, N % M, K, msgs mw N⟩ : Od).put (r : Int) (mw k) := ⟨_, rfl⟩
              rw [← hgv, ← hs2] at P1
              rw [← hs2] at HAL
              simp only [← hs2, ← hgv] at PUT
              obtain ⟨fr, hfr⟩ : ∃ fr, fr = (decide (N ≤ k) && !C k) := ⟨_, rfl⟩
              have HFR := Lib.hid hfr
              clear hgv hs2 hfr hs hi ha hr
              go_wp2_with fail
              refine P1.mono ?_
              rintro e v2 ⟨rfl, h2'⟩
              have cK := h2'.cell (j := k) (by omega)
              have cF := h2'.open_ k
              have H3 := h2'.set (k := k) (by omega)
              obtain ⟨v3, hv3⟩ : ∃ v3, v2.setCell ⟨g, k, none⟩ (.bool true) = v3 := ⟨_, rfl⟩
              rw [hv3] at H3
              have HSO := Lib.hid H3
              have CEL := Lib.hid (fun j (hj : j < n + 1) => H3.cell hj)
              have z1 : (0 : Int) ≤ (k : Int) := by omega
              have z2 : (k : Int) < (n : Int) + 1 := by omega
              clear P1 h2' H3 e4 e5 q0 hb3 hz hz15 hw2 hkk hk1 hk2 c1 c2 c3 c4
              go_upto_region 13 with (fail)
              go_cut [16] (fun s16 wx => s16 = .bool fr ∧ v2 = wx)
              case first =>
                by_cases b1 : N ≤ k
                · have b1z : (N : Int) ≤ (k : Int) := by omega
                  have e9 : (!C k) = fr := by rw [HFR.out, decide_eq_true b1]; simp
                  clear hv3 PUT HAL NOT HFR CEL HSO
                  go_wp2
                  go_meet
                  case rel => exact ⟨by first | rfl | rw [e9], rfl⟩
                · have b1z : ¬ (N : Int) ≤ (k : Int) := by omega
                  have e9 : fr = false := by rw [HFR.out, decide_eq_false b1]; rfl
                  clear hv3 PUT HAL NOT HFR CEL HSO
                  go_wp2
                  go_meet
                  case rel => exact ⟨by rw [e9], rfl⟩
              case rest =>
                obtain ⟨rfl, rfl⟩ := hcut
                go_wp2_with fail
                clear cK cF hv3
                go_loopg [11, 17] (n - N) (fun kx s11 s17 wx => ∃ (N' d : Nat), s11 = .int .i64 (N' : Int) ∧ s17 = .int .i64 (d : Int) ∧ N ≤ N' ∧ N' ≤ N + d ∧ N + d ≤ N' ∧ N' ≤ n ∧ n - N' ≤ kx ∧ v3 = wx ∧ Aside (∀ j, N ≤ j → j < N' → upd C k j = true))
                case atStart => exact ⟨N, 0, rfl, rfl, by omega, by omega, by omega, by omega, Nat.le_refl _, rfl, fun j g1 g2 => by omega⟩
                case round =>
                  obtain ⟨N', d, rfl, rfl, d1, d2, d3, d4, hkx2, rfl, HC⟩ := hrel
                  have e8 : (N' : Int) - (d : Int) = (N : Int) := by omega
                  by_cases a0 : N' < n
                  · have a0z : (N' : Int) < (n : Int) := by omega
                    have cc := CEL.out N' (by omega)
                    have y1 : (0 : Int) ≤ (N' : Int) := by omega
                    have y2 : (N' : Int) < (n : Int) + 1 := by omega
                    cases hcN : upd C k N' with
                    | true =>
                      rw [hcN] at cc
                      have HC2 : Aside (∀ j, N ≤ j → j < N' + 1 → upd C k j = true) := fun j g1 g2 => by
                        rcases Nat.lt_or_ge j N' with h' | h'
                        · exact HC.out j g1 h'
                        · rw [show j = N' by omega]; exact hcN
                      clear PUT HSO HAL HFR NOT CEL HC hcN e8
                      go_wp2
                      go_roundg (n - (N' + 1))
                      case measure => omega
                      case rel => exact ⟨N' + 1, d + 1, by go_num, by go_num, by omega, by omega, by omega, by omega, Nat.le_refl _, rfl, HC2⟩
                    | false =>
                      rw [hcN] at cc
                      obtain ⟨K', e1, si', hgv⟩ := PUT.out N' (by omega) HC.out hcN
                      have FIN : Aside (SS w v3 p g M W n (upd C k) N' (i + 1)) := ⟨K', by rw [← e1]; exact HSO.out, si', by rw [← e1]; exact HAL.out⟩
                      clear e1 si' PUT HSO HAL
                      by_cases a1 : k < N
                      · rw [if_pos a1] at hgv
                        have hfr' : fr = false := by rw [HFR.out, decide_eq_false (show ¬ N ≤ k by omega)]; rfl
                        have a1z : (k : Int) < (N : Int) := by omega
                        subst hgv hfr'
                        go_wp2
                        go_roundg (len - (i + 1))
                        case measure => omega
                        case rel => exact ⟨i + 1, N', upd C k, rfl, by go_num, by omega, Nat.le_refl _, by omega, FIN⟩
                      · rw [if_neg a1] at hgv
                        have a1z : ¬ (k : Int) < (N : Int) := by omega
                        cases hc : C k with
                        | true =>
                          rw [hc, if_pos rfl] at hgv
                          have hfr' : fr = false := by rw [HFR.out, hc, decide_eq_true (show N ≤ k by omega)]; rfl
                          subst hgv hfr'
                          clear hc
                          go_wp2
                          go_roundg (len - (i + 1))
                          case measure => omega
                          case rel => exact ⟨i + 1, N', upd C k, rfl, by go_num, by omega, Nat.le_refl _, by omega, FIN⟩
                        | false =>
                          rw [hc, if_neg (by decide)] at hgv
                          have hfr' : fr = true := by rw [HFR.out, hc, decide_eq_true (show N ≤ k by omega)]; rfl
                          have hgd : gv = (d : Int) := by rw [hgv]; omega
                          subst hgd hfr'
                          clear hc hgv
                          go_wp2
                          go_roundg (len - (i + 1))
                          case measure => omega
                          case rel => exact ⟨i + 1, N', upd C k, rfl, by go_num, by omega, Nat.le_refl _, by omega, FIN⟩
                  · have a0z : ¬ (N' : Int) < (n : Int) := by omega
                    have hcN : upd C k N' = false := by rw [show N' = n by omega]; exact NOT.out
                    obtain ⟨K', e1, si', hgv⟩ := PUT.out N' (by omega) HC.out hcN
                    have FIN : Aside (SS w v3 p g M W n (upd C k) N' (i + 1)) := ⟨K', by rw [← e1]; exact HSO.out, si', by rw [← e1]; exact HAL.out⟩
                    clear e1 si' PUT HSO HAL
                    by_cases a1 : k < N
                    · rw [if_pos a1] at hgv
                      have hfr' : fr = false := by rw [HFR.out, decide_eq_false (show ¬ N ≤ k by omega)]; rfl
                      have a1z : (k : Int) < (N : Int) := by omega
                      subst hgv hfr'
                      go_wp2
                      go_roundg (len - (i + 1))
                      case measure => omega
                      case rel => exact ⟨i + 1, N', upd C k, rfl, by go_num, by omega, Nat.le_refl _, by omega, FIN⟩
                    · rw [if_neg a1] at hgv
                      have a1z : ¬ (k : Int) < (N : Int) := by omega
                      cases hc : C k with
                      | true =>
                        rw [hc, if_pos rfl] at hgv
                        have hfr' : fr = false := by rw [HFR.out, hc, decide_eq_true (show N ≤ k by omega)]; rfl
                        subst hgv hfr'
                        clear hc
                        go_wp2
                        go_roundg (len - (i + 1))
                        case measure => omega
                        case rel => exact ⟨i + 1, N', upd C k, rfl, by go_num, by omega, Nat.le_refl _, by omega, FIN⟩
                      | false =>
                        rw [hc, if_neg (by decide)] at hgv
                        have hfr' : fr = true := by rw [HFR.out, hc, decide_eq_true (show N ≤ k by omega)]; rfl
                        have hgd : gv = (d : Int) := by rw [hgv]; omega
                        subst hgd hfr'
                        clear hc hgv
                        go_wp2
                        go_roundg (len - (i + 1))
                        case measure => omega
                        case rel => exact ⟨i + 1, N', upd C k, rfl, by go_num, by omega, Nat.le_refl _, by omega, FIN⟩
    · have hltz : ¬ (i : Int) < (len : Int) := by omega
      obtain ⟨K, hs, hi, ha⟩ := HO.out
      have H6 : Aside (OdOne w wr p ⟨M, W, N % M, K, (msgs mw N).drop 0⟩) := hs.one
      clear HO hs hi ha hil hkx hlt
      go_wp2_with fail
      go_loopg [19] N (fun kx s19 wx => ∃ t : Nat, s19 = .int .i64 (t : Int) ∧ t ≤ N ∧ N - t ≤ kx ∧ Aside (OdOne w wx p ⟨M, W, N % M, K, (msgs mw N).drop t⟩))
      case atStart => exact ⟨0, rfl, by omega, by omega, H6.out⟩
      case round =>
        clear H6
        obtain ⟨t, rfl, htl, hkx, HO⟩ := hrel
        by_cases hlt : t < N
        · have hltz : (t : Int) < (N : Int) := by omega
          have TK := HO.out.take
          rw [msgs_drop mw hlt, Od.take_cons.1, Od.take_cons.2.1, Od.take_cons.2.2, show (mw t).length = 2 from rfl] at TK
          have LM := Lib.hid (fun v => laid_mw v (show t < 65536 by omega))
          clear HO
          go_wp2_with fail
          refine TK.mono ?_
          rintro e w7 ⟨A7, c7, rfl, rd, h7, _⟩
          clear TK
          have q1 : (convert 28 9 (.slice A7 2 c7)).run Try.prog w7 = .ok (.string ⟨#[UInt8.ofNat t, UInt8.ofNat (t / 256)]⟩) w7 := run_conv w7 A7 c7 (mw t) rd
          have q3 := run_conv (laid w7 (mw t)) (some ⟨w7.heap.size, 0, none⟩) 2 (mw t) (laid_rd w7 (mw t))
          have FIN := h7.beside (laid_below w7 (mw t))
          rw [LM.out w7] at q3 FIN
          have q3' : (convert 28 9 (.slice (some ⟨w7.heap.size, 0, none⟩) 2 2)).run Try.prog (w7.alloc (.cells #[.int .u8 ((t : Int) % 256), .int .u8 ((t : Int) / 256)] 5)) = .ok (.string ⟨#[UInt8.ofNat t, UInt8.ofNat (t / 256)]⟩) (w7.alloc (.cells #[.int .u8 ((t : Int) % 256), .int .u8 ((t : Int) / 256)] 5)) := q3
          have FIN' : Aside (OdOne w (w7.alloc (.cells #[.int .u8 ((t : Int) % 256), .int .u8 ((t : Int) / 256)] 5)) p ⟨M, W, N % M, K, (msgs mw N).drop (t + 1)⟩) := FIN
          clear FIN q3 h7 rd LM
          generalize UInt8.ofNat t = x1 at *
          generalize UInt8.ofNat (t / 256) = x2 at *
          go_wp2
          go_roundg (N - (t + 1))
          case measure => omega
          case rel => exact ⟨t + 1, by go_num, by omega, Nat.le_refl _, FIN'⟩
        · have hltz : ¬ (t : Int) < (N : Int) := by omega
          obtain rfl : t = N := by omega
          have TK := HO.out.take
          rw [msgs_end mw t, Od.take_nil.1, Od.take_nil.2.1, Od.take_nil.2.2] at TK
          clear HO
          go_wp2_with fail
          refine TK.mono ?_
          rintro e w7 ⟨A7, c7, rfl, _, h7, _⟩
          clear TK
          have NX := fun q => (h7.drewN q).next
          simp only at NX
          have FI := Lib.hid (fun q => (h7.drewN q).bel)
          obtain ⟨r, hr⟩ : ∃ r, t % M = r := ⟨_, rfl⟩
          obtain ⟨e4, e5⟩ := mod_int (A := (t : Int)) (a := t) rfl hr
          rw [hr] at NX
          have hM0 : ¬ (M : Int) = 0 := by omega
          clear h7 hr
          go_wp2_with fail
          go_quiet (first | (go_at_call 16; exact Calls.quiet_of_same (NX _)))
          go_wp2
          go_ret
          exact ⟨rfl, FI.out _⟩
set_option maxRecDepth 20000 in
set_option maxHeartbeats 2000000 in
theorem ReorderSorts_far (M W n : Int) (A : Option Addr) (len cap : Nat) (hM : I64 M) (hc : len ≤ maxLen) (h : M < 8 ∨ (8 ≤ M ∧ 256 < M) ∨ (8 ≤ M ∧ M ≤ 256 ∧ W < 1) ∨ (8 ≤ M ∧ M ≤ 256 ∧ 1 ≤ W ∧ M / 8 < W) ∨ (8 ≤ M ∧ M ≤ 256 ∧ 1 ≤ W ∧ W ≤ M / 8 ∧ n < 0) ∨ (8 ≤ M ∧ M ≤ 256 ∧ 1 ≤ W ∧ W ≤ M / 8 ∧ 0 ≤ n ∧ 400 < n) ∨ (8 ≤ M ∧ M ≤ 256 ∧ 1 ≤ W ∧ W ≤ M / 8 ∧ 0 ≤ n ∧ n ≤ 400 ∧ 800 < len)) (w : World) :
    Calls Try.prog 4 #[.int .i64 M, .int .i64 W, .int .i64 n, .slice A len cap] w fun e w' => e = .returned (.bool true) ∧ Below w.heap.size w w' := by
  unfold maxLen at hc
  have hc' : len ≤ 9223372036854775807 := by omega
  clear hc
  rcases h with h1 | ⟨h1, h2⟩ | ⟨h1, h2, h3⟩ | ⟨h1, h2, h3, h4⟩ | ⟨h1, h2, h3, h4, h5⟩ | ⟨h1, h2, h3, h4, h5, h6⟩ | ⟨h1, h2, h3, h4, h5, h6, h7⟩
  all_goals
    go_enter Try.func4, Try.ntmps4
    go_wp2_with fail
    refine (alive_calls w).mono ?_
    rintro e W ⟨rfl, hb⟩
    try have q1 : ¬ M < 8 := by omega
    try have q2 : M.tdiv 8 = M / 8 := Int.tdiv_eq_ediv_of_nonneg (by omega)
    try have q3 : wrap64 (M / 8) = M / 8 := by unfold wrap64; omega
    try have q4 : (800 : Int) < (len : Int) := by omega
    go_wp2
    go_ret
    exact ⟨rfl, hb⟩
theorem ReorderSorts_walk (a0 a1 a2 : Int) (a3 : Option Addr) (len3 cap3 : Nat) (z3 : List Int) (w : World) (w0 : (Lit.int .i64 a0).wf = true) (w1 : (Lit.int .i64 a1).wf = true) (w2 : (Lit.int .i64 a2).wf = true) 
    (h3 : (a3 = none ∧ len3 = 0 ∧ cap3 = 0 ∧ z3 = []) ∨ ∃ x, a3 = some x ∧ len3 ≤ cap3 ∧ cap3 ≤ maxLen ∧ z3.length = cap3 ∧ (∀ i, i < z3.length → w.cell? (x.add i) = some (.int .i64 (z3.getD i 0))) ∧ ∀ n ∈ z3, (Lit.int .i64 n).wf = true) :
    Calls Try.prog 4 #[.int .i64 a0, .int .i64 a1, .int .i64 a2, .slice a3 len3 cap3] w fun e w' => e = .returned (.bool true) ∧ Below w.heap.size w w' := by
  obtain ⟨l, rfl, hl, hm, hr⟩ := RdI.of_row h3
  by_cases h : 8 ≤ a0 ∧ a0 ≤ 256 ∧ 1 ≤ a1 ∧ a1 ≤ a0 / 8 ∧ 0 ≤ a2 ∧ a2 ≤ 400 ∧ l.length ≤ 800
  · obtain ⟨h1, h2, h3, h4, h5, h6, h7⟩ := h
    obtain ⟨M, rfl⟩ : ∃ n : Nat, a0 = n := ⟨a0.toNat, by omega⟩
    obtain ⟨W, rfl⟩ : ∃ n : Nat, a1 = n := ⟨a1.toNat, by omega⟩
    obtain ⟨n, rfl⟩ : ∃ m : Nat, a2 = m := ⟨a2.toNat, by omega⟩
    exact ReorderSorts_main M W n a3 cap3 l (by omega) (by omega) (by omega) (by omega) (by omega) h7 w hr
  · exact ReorderSorts_far a0 a1 a2 a3 l.length cap3 (bounds_i64 w0) (by omega) (by omega) w
end Go.Proofs.Ytbalhpffdgbdgaa

/- The reference's ReadCtl. Condition: the slice reads as its bytes. -/
import Derived.Test.YthakcaofihacdaaCtlRefRead
namespace Go.Proofs.Ythakcaofihacdaa
open Go.RowKit
set_option linter.unusedVariables false

theorem zrow {v : World} {g : Nat} (h : v.heap[g]? = some (.cells #[.int .i64 0, .int .i64 0, .int .i64 0, .bool false] 23 (0, 0))) :
    v.cell? ⟨g, 0, none⟩ = some (.int .i64 0) ∧ v.cell? ⟨g, 1, none⟩ = some (.int .i64 0) ∧ v.cell? ⟨g, 2, none⟩ = some (.int .i64 0) ∧ v.cell? ⟨g, 3, none⟩ = some (.bool false) ∧ v.frozen? ⟨g, 0, none⟩ = false ∧ v.frozen? ⟨g, 1, none⟩ = false ∧ v.frozen? ⟨g, 2, none⟩ = false ∧ v.frozen? ⟨g, 3, none⟩ = false := by
  refine ⟨?_, ?_, ?_, ?_, frozen_of_row v g 0 _ _ h, frozen_of_row v g 1 _ _ h, frozen_of_row v g 2 _ _ h, frozen_of_row v g 3 _ _ h⟩ <;> rw [cell_of_row v g _ _ _ (0, 0) h] <;> rfl
theorem rdNum_short (k : Int) (l : List UInt8) : (l.length < 2 → rdNum k (splitN l 128) = (zc, 0, 3)) ∧ (l.length < 4 → rdNum k (splitN l 32768) = (zc, 0, 3)) := by
  unfold splitN
  refine ⟨fun h => ?_, fun h => ?_⟩
  · rw [if_neg (by omega), if_neg (by omega)]
    rfl
  · rw [if_neg (by omega), if_neg (by omega)]
    rfl
theorem split_128 {l : List UInt8} (h : 2 ≤ l.length) : splitN l 128 = (bAt l 0, bAt l 1, 2) := if_pos ⟨rfl, h⟩
theorem split_32768 {l : List UInt8} (h : 4 ≤ l.length) : splitN l 32768 = (bAt l 0 + 256 * bAt l 1, bAt l 2 + 256 * bAt l 3, 4) := by
  unfold splitN
  rw [if_neg (by omega), if_pos ⟨rfl, h⟩]
theorem rdNum_i (s1 s2 s3 : Int) (h : ¬ s3 = 0) : rdNum 0 (s1, s2, s3) = ((0, s1 / 2, s2 / 2, (s2 % 2 == 1)), s3, 0) := by
  unfold rdNum
  rw [if_neg h, if_pos rfl, dec_beq]
theorem rdNum_s (k s1 s2 s3 : Int) (hk : ¬ k = 0) (h : ¬ s3 = 0) (hs : s1 = codeOf k) : rdNum k (s1, s2, s3) = ((k, 0, s2 / 2, (s2 % 2 == 1)), s3, 0) := by
  unfold rdNum
  rw [if_neg h, if_neg hk, if_pos hs, dec_beq]
theorem rdNum_x (k s1 s2 s3 : Int) (hk : ¬ k = 0) (h : ¬ s3 = 0) (hs : ¬ s1 = codeOf k) : rdNum k (s1, s2, s3) = (zc, 0, 2) := by
  unfold rdNum
  rw [if_neg h, if_neg hk, if_neg hs]

set_option maxHeartbeats 3000000 in
theorem refRead_128 (A : Option Addr) (c : Nat) (l : List UInt8) (w : World) (hr : Rd w A l) (hl : l.length ≤ 1000) (h0 : l ≠ []) :
    Calls Try.prog 15 #[.slice A l.length c, .int .i64 128] w (GivesC (rdC l 128) w) := by
  have hM : isMod 128 = true := rfl
  have hpos : 0 < l.length := List.length_pos_iff.mpr h0
  obtain ⟨R, hR⟩ : ∃ R, rdC l 128 = R := ⟨_, rfl⟩
  rw [hR]
  obtain ⟨b, off, rfl, hb, hc⟩ := hr.bAt 0 hpos
  have HR := Lib.hid hR
  have HM := Lib.hid hM
  have H0 := Lib.hid h0
  obtain ⟨V, hV⟩ : ∃ V, (w.alloc (.cells #[.int .i64 0, .int .i64 0, .int .i64 0, .bool false] 23)).alloc (.cells #[.int .i64 0, .int .i64 0, .int .i64 0, .bool false] 23) = V := ⟨_, rfl⟩
  have bV : Below w.heap.size w V := by rw [← hV]; exact ba (ba (Below.refl _ _))
  have sV : V.heap.size = w.heap.size + 1 + 1 := by rw [← hV]; simp
  have g0 : V.heap[w.heap.size]? = some (.cells #[.int .i64 0, .int .i64 0, .int .i64 0, .bool false] 23 (0, 0)) := by
    rw [← hV, Below.heap_alloc _ _ _ (by simp)]
    exact heap_alloc_new w _
  have g1 : V.heap[w.heap.size + 1]? = some (.cells #[.int .i64 0, .int .i64 0, .int .i64 0, .bool false] 23 (0, 0)) := by
    rw [← hV]
    have := heap_alloc_new (w.alloc (.cells #[.int .i64 0, .int .i64 0, .int .i64 0, .bool false] 23)) (.cells #[.int .i64 0, .int .i64 0, .int .i64 0, .bool false] 23)
    rw [show (w.alloc (.cells #[.int .i64 0, .int .i64 0, .int .i64 0, .bool false] 23)).heap.size = w.heap.size + 1 by simp] at this
    exact this
  have CE : ∀ v, Below V.heap.size V v → ∀ i, i < l.length → v.cell? ⟨b, off + i, none⟩ = some (.int .u8 (bAt l i)) := fun v hv i hi =>
    ((bV.trans (hv.mono bV.size)).cell (p := ⟨b, off + i, none⟩) hb).trans (hc i hi)
  have GG : ∀ v, Below V.heap.size V v → v.heap[w.heap.size]? = some (.cells #[.int .i64 0, .int .i64 0, .int .i64 0, .bool false] 23 (0, 0)) ∧ v.heap[w.heap.size + 1]? = some (.cells #[.int .i64 0, .int .i64 0, .int .i64 0, .bool false] 23 (0, 0)) := fun v hv =>
    ⟨(hv.block _ (by omega)).trans g0, (hv.block _ (by omega)).trans g1⟩
  have HC := Lib.hid CE
  have HG := Lib.hid GG
  have HB := Lib.hid bV
  have b0 := bAt_lt l 0
  obtain ⟨x, hx⟩ : ∃ x, bAt l 0 = x := ⟨_, rfl⟩
  rw [hx] at b0
  have HX := Lib.hid hx
  clear hr hc hR h0 hM CE GG g0 g1 bV sV hx
  obtain ⟨n, hn⟩ : ∃ n, l.length = n := ⟨_, rfl⟩
  rw [hn] at hl hpos ⊢
  have HN := Lib.hid hn
  clear hn
  have l1 : ((n : Int) == 0) = false := by simp; omega
  have l2 : (0 : Int) < (n : Int) := by omega
  go_enter Try.func15, Try.ntmps15
  go_wp2_with fail
  go_loopg [8] 5 (fun kx s8 wr => ∃ k : Nat, s8 = .int .i64 (k : Int) ∧ 3 ≤ k ∧ k ≤ 8 ∧ 8 - k ≤ kx ∧ Aside (Below V.heap.size V wr) ∧ Aside (∀ j : Int, 3 ≤ j → j < (k : Int) → ¬ (x = codeOf j) ∧ ¬ (x = codeOf j + 16)))
  case atStart => exact ⟨3, rfl, by omega, by omega, by omega, Below.refl _ _, fun j h1 h2 => by omega⟩
  case round =>
    clear hV
    obtain ⟨k, rfl, hk1, hk8, hkx, HW, HA⟩ := hrel
    by_cases hk : k ≤ 7
    · have hkz : (k : Int) ≤ 7 := by omega
      have cb := code_bound (k : Int)
      have BC := fun v => bare_calls (k : Int) (by omega) v
      have KD := Lib.hid (show ∀ v, Below V.heap.size V v → v.cell? ⟨b, off, none⟩ = some (.int .u8 x) from fun v hv => by rw [← HX.out]; exact HC.out v hv 0 (by rw [HN.out]; exact hpos))
      have D0 : ∀ o, Below V.heap.size V ((wr.alloc o).drew) := fun o => (HW.out.alloc HW.out.size o).drew
      have D1 := Lib.hid D0
      have E0 : ∀ o, Below V.heap.size V (wr.drew.alloc o) := fun o => HW.out.drew.alloc HW.out.size o
      have E1 := Lib.hid E0
      have k0 := KD.out wr HW.out
      clear D0 E0
      have w0 : IntKind.i64.wrap 0 = 0 := rfl
      have w16 : IntKind.i64.wrap 16 = 16 := rfl
      have ww : IntKind.i64.wrap x = x := by rw [IntKind.wrap_i64]; omega
      have wc : IntKind.i64.wrap (codeOf (k : Int)) = codeOf (k : Int) := by rw [IntKind.wrap_i64]; omega
      have wd : IntKind.i64.wrap (codeOf (k : Int) + 16) = codeOf (k : Int) + 16 := by rw [IntKind.wrap_i64]; omega
      by_cases hx0 : x = codeOf (k : Int)
      · have e0 : (x == codeOf (k : Int)) = true := by simpa using hx0
        have hz : R = (((k : Int), 0, 0, false), 1, 0) := by rw [← HR.out]; exact rdC_bare HM.out H0.out (by omega) hkz false (by rw [HX.out, hx0, pb_f]; omega)
        subst hz
        clear hx0 HR HA
        go_wp2_with fail
        refine wp_loop_rounds 3 ?_
        rw [rounds_succ]
        go_wp2_with fail
        go_region_held (fun v => v.cell? ⟨b, off, none⟩ = some (.int .u8 x)) (first | exact k0 | exact KD.out _ (D1.out _) | exact KD.out _ (E1.out _)) ((go_at_call 23; with_reducible refine (BC _).mono ?_; rintro e w' ⟨rfl, rfl⟩))
        have HV := D1.out (.cells #[.int .i64 111, .int .i64 99, .int .i64 67, .int .i64 15, .int .i64 135] 3)
        generalize (wr.alloc (.cells #[.int .i64 111, .int .i64 99, .int .i64 67, .int .i64 15, .int .i64 135] 3)).drew = w1 at *
        obtain ⟨gz, gz1⟩ := HG.out w1 HV
        obtain ⟨c0, c1, c2, c3, f0, f1, f2, f3⟩ := zrow gz
        have BB := Lib.hid (HB.out.trans (HV.mono HB.out.size))
        clear gz gz1 HV k0
        go_wp2
        refine bodyPost_ret (v := .tuple #[.agg #[.int .i64 (k : Int), .int .i64 0, .int .i64 0, .bool false], .int .i64 1, .int .i64 0]) (by simp [results, Try.results15, go_sem, c0, c1, c2, c3]) rfl ⟨rfl, by ((repeat (first | with_reducible refine ba ?_ | with_reducible refine bd ?_ | with_reducible refine Below.drew ?_ | with_reducible refine bs ?_ (by first | exact Nat.le_refl _ | exact Nat.le_succ _))); exact BB.out)⟩
      · have e0 : (x == codeOf (k : Int)) = false := by simpa using hx0
        have X0 := Lib.hid hx0
        clear hx0
        by_cases hx1 : x = codeOf (k : Int) + 16
        · have e1 : (x == codeOf (k : Int) + 16) = true := by simpa using hx1
          have hz : R = (((k : Int), 0, 0, true), 1, 0) := by rw [← HR.out]; exact rdC_bare HM.out H0.out (by omega) hkz true (by rw [HX.out, hx1, pb_t]; omega)
          subst hz
          clear hx1 HR HA
          go_wp2_with fail
          refine wp_loop_rounds 3 ?_
          rw [rounds_succ]
          go_wp2_with fail
          go_region_held (fun v => v.cell? ⟨b, off, none⟩ = some (.int .u8 x)) (first | exact k0 | exact KD.out _ (D1.out _) | exact KD.out _ (E1.out _)) ((go_at_call 23; with_reducible refine (BC _).mono ?_; rintro e w' ⟨rfl, rfl⟩))
          have HV := Lib.hid (D1.out (.cells #[.int .i64 111, .int .i64 99, .int .i64 67, .int .i64 15, .int .i64 135] 3))
          generalize (wr.alloc (.cells #[.int .i64 111, .int .i64 99, .int .i64 67, .int .i64 15, .int .i64 135] 3)).drew = w1 at *
          have D2 := Lib.hid (show ∀ o, Below V.heap.size V ((w1.alloc o).drew) from fun o => (HV.out.alloc HV.out.size o).drew)
          have E2 := Lib.hid (show ∀ o, Below V.heap.size V (w1.drew.alloc o) from fun o => HV.out.drew.alloc HV.out.size o)
          have k1 := KD.out w1 HV.out
          clear k0
          go_wp2_with fail
          rw [rounds_succ]
          go_wp2_with fail
          go_region_held (fun v => v.cell? ⟨b, off, none⟩ = some (.int .u8 x)) (first | exact k1 | exact KD.out _ (D2.out _) | exact KD.out _ (E2.out _)) ((go_at_call 23; with_reducible refine (BC _).mono ?_; rintro e w' ⟨rfl, rfl⟩))
          have HV2 := D2.out (.cells #[.int .i64 111, .int .i64 99, .int .i64 67, .int .i64 15, .int .i64 135] 3)
          generalize (w1.alloc (.cells #[.int .i64 111, .int .i64 99, .int .i64 67, .int .i64 15, .int .i64 135] 3)).drew = w2 at *
          obtain ⟨gz, gz1⟩ := HG.out w2 HV2
          obtain ⟨c0, c1, c2, c3, f0, f1, f2, f3⟩ := zrow gz
          have BB := Lib.hid (HB.out.trans (HV2.mono HB.out.size))
          clear gz gz1 HV2 k1
          go_wp2
          refine bodyPost_ret (v := .tuple #[.agg #[.int .i64 (k : Int), .int .i64 0, .int .i64 0, .bool true], .int .i64 1, .int .i64 0]) (by simp [results, Try.results15, go_sem, c0, c1, c2, c3]) rfl ⟨rfl, by ((repeat (first | with_reducible refine ba ?_ | with_reducible refine bd ?_ | with_reducible refine Below.drew ?_ | with_reducible refine bs ?_ (by first | exact Nat.le_refl _ | exact Nat.le_succ _))); exact BB.out)⟩
        · have e1 : (x == codeOf (k : Int) + 16) = false := by simpa using hx1
          have X1 := Lib.hid hx1
          clear hx1
          have FIN : Aside (∀ j : Int, 3 ≤ j → j < ((k + 1 : Nat) : Int) → ¬ (x = codeOf j) ∧ ¬ (x = codeOf j + 16)) := by
            intro j h1 h2
            by_cases hj : j = (k : Int)
            · rw [hj]
              exact ⟨X0.out, X1.out⟩
            · exact HA.out j h1 (by omega)
          clear HA X0 X1
          go_wp2_with fail
          refine wp_loop_rounds 3 ?_
          rw [rounds_succ]
          go_wp2_with fail
          go_region_held (fun v => v.cell? ⟨b, off, none⟩ = some (.int .u8 x)) (first | exact k0 | exact KD.out _ (D1.out _) | exact KD.out _ (E1.out _)) ((go_at_call 23; with_reducible refine (BC _).mono ?_; rintro e w' ⟨rfl, rfl⟩))
          have HV := Lib.hid (D1.out (.cells #[.int .i64 111, .int .i64 99, .int .i64 67, .int .i64 15, .int .i64 135] 3))
          generalize (wr.alloc (.cells #[.int .i64 111, .int .i64 99, .int .i64 67, .int .i64 15, .int .i64 135] 3)).drew = w1 at *
          have D2 := Lib.hid (show ∀ o, Below V.heap.size V ((w1.alloc o).drew) from fun o => (HV.out.alloc HV.out.size o).drew)
          have E2 := Lib.hid (show ∀ o, Below V.heap.size V (w1.drew.alloc o) from fun o => HV.out.drew.alloc HV.out.size o)
          have k1 := KD.out w1 HV.out
          clear k0
          go_wp2_with fail
          rw [rounds_succ]
          go_wp2_with fail
          go_region_held (fun v => v.cell? ⟨b, off, none⟩ = some (.int .u8 x)) (first | exact k1 | exact KD.out _ (D2.out _) | exact KD.out _ (E2.out _)) ((go_at_call 23; with_reducible refine (BC _).mono ?_; rintro e w' ⟨rfl, rfl⟩))
          have HV2 : Aside (Below V.heap.size V ((w1.alloc (.cells #[.int .i64 111, .int .i64 99, .int .i64 67, .int .i64 15, .int .i64 135] 3)).drew)) := D2.out _
          generalize (w1.alloc (.cells #[.int .i64 111, .int .i64 99, .int .i64 67, .int .i64 15, .int .i64 135] 3)).drew = w2 at *
          clear k1
          go_wp2_with fail
          rw [rounds_succ]
          go_wp2_with fail
          go_roundg (7 - k)
          case measure => omega
          case rel => exact ⟨k + 1, by go_num, by omega, by omega, by omega, HV2, FIN⟩
    · have hkz : ¬ (k : Int) ≤ 7 := by omega
      have NO := Lib.hid (show ∀ j : Int, 3 ≤ j → j ≤ 7 → ¬ (bAt l 0 = codeOf j) ∧ ¬ (bAt l 0 = codeOf j + 16) from fun j h1 h2 => by rw [HX.out]; exact HA.out j h1 (by omega))
      obtain ⟨gz, gz1⟩ := HG.out wr HW.out
      obtain ⟨c0, c1, c2, c3, f0, f1, f2, f3⟩ := zrow gz
      obtain ⟨d0, d1, d2, d3, -, -, -, -⟩ := zrow gz1
      have lt0 : w.heap.size < wr.heap.size := World.block_lt_of_cell? wr _ c0
      have lt1 : w.heap.size + 1 < wr.heap.size := World.block_lt_of_cell? wr _ d0
      have BB := Lib.hid (HB.out.trans (HW.out.mono HB.out.size))
      have k0 : wr.cell? ⟨b, off, none⟩ = some (.int .u8 x) := by rw [← HX.out]; exact HC.out wr HW.out 0 (by rw [HN.out]; exact hpos)
      have CE := Lib.hid (HC.out wr HW.out)
      have ltb : b < wr.heap.size := World.block_lt_of_cell? wr _ k0
      clear gz gz1 HA hk1 hk8 hkx HG HB HC HW hk
      by_cases x1 : x = 1
      · subst x1
        have KN := Lib.hid (show kindN (bAt l 0) = (1, true) by rw [HX.out]; rfl)
        clear NO
        by_cases hs : n < 2
        · have hz : R = (zc, 0, 3) := by rw [← HR.out, rdC_num (k := 1) HM.out H0.out KN.out rfl]; exact (rdNum_short 1 l).1 (by rw [HN.out]; exact hs)
          subst hz
          clear HR
          have s1 : (n : Int) < 2 := by omega
          go_wp2
          refine bodyPost_ret (v := .tuple #[.agg #[.int .i64 0, .int .i64 0, .int .i64 0, .bool false], .int .i64 0, .int .i64 3]) (by simp [results, Try.results15, go_sem, c0, c1, c2, c3]) rfl ⟨rfl, by ((repeat (first | with_reducible refine ba ?_ | with_reducible refine bd ?_ | with_reducible refine Below.drew ?_ | with_reducible refine bs ?_ (by first | exact Nat.le_refl _ | exact Nat.le_succ _))); exact BB.out)⟩
        · have s1 : ¬ (n : Int) < 2 := by omega
          have s2 : 2 ≤ n := by omega
          have k1 := CE.out 1 (by rw [HN.out]; omega)
          have b1 := bAt_lt l 1
          have i1 : (1 : Int) < (n : Int) := by omega
          have SP : splitN l 128 = (bAt l 0, bAt l 1, 2) := split_128 (by rw [HN.out]; exact s2)
          rw [HX.out] at SP
          obtain ⟨y, hy⟩ : ∃ y, bAt l 1 = y := ⟨_, rfl⟩
          rw [hy] at k1 b1 SP
          have hz := (HR.out).symm.trans ((rdC_num (k := 1) HM.out H0.out KN.out rfl).trans (by rw [SP]))
          clear HR SP hy
          rw [rdNum_s 1 1 y 2 (by decide) (by decide) rfl] at hz
          subst hz
          go_wp2
          refine bodyPost_ret (v := .tuple #[.agg #[.int .i64 1, .int .i64 0, .int .i64 ((y) / 2), .bool ((y) % 2 == 1)], .int .i64 2, .int .i64 0]) (by simp [results, Try.results15, go_sem, c0, c1, c2, c3, lt0]) rfl ⟨rfl, by ((repeat (first | with_reducible refine ba ?_ | with_reducible refine bd ?_ | with_reducible refine Below.drew ?_ | with_reducible refine bs ?_ (by first | exact Nat.le_refl _ | exact Nat.le_succ _))); exact BB.out)⟩
      · by_cases x9 : x = 9
        · subst x9
          have KN := Lib.hid (show kindN (bAt l 0) = (2, true) by rw [HX.out]; rfl)
          clear NO
          by_cases hs : n < 2
          · have hz : R = (zc, 0, 3) := by rw [← HR.out, rdC_num (k := 2) HM.out H0.out KN.out rfl]; exact (rdNum_short 2 l).1 (by rw [HN.out]; exact hs)
            subst hz
            clear HR
            have s1 : (n : Int) < 2 := by omega
            go_wp2
            refine bodyPost_ret (v := .tuple #[.agg #[.int .i64 0, .int .i64 0, .int .i64 0, .bool false], .int .i64 0, .int .i64 3]) (by simp [results, Try.results15, go_sem, c0, c1, c2, c3]) rfl ⟨rfl, by ((repeat (first | with_reducible refine ba ?_ | with_reducible refine bd ?_ | with_reducible refine Below.drew ?_ | with_reducible refine bs ?_ (by first | exact Nat.le_refl _ | exact Nat.le_succ _))); exact BB.out)⟩
          · have s1 : ¬ (n : Int) < 2 := by omega
            have s2 : 2 ≤ n := by omega
            have k1 := CE.out 1 (by rw [HN.out]; omega)
            have b1 := bAt_lt l 1
            have i1 : (1 : Int) < (n : Int) := by omega
            have SP : splitN l 128 = (bAt l 0, bAt l 1, 2) := split_128 (by rw [HN.out]; exact s2)
            rw [HX.out] at SP
            obtain ⟨y, hy⟩ : ∃ y, bAt l 1 = y := ⟨_, rfl⟩
            rw [hy] at k1 b1 SP
            have hz := (HR.out).symm.trans ((rdC_num (k := 2) HM.out H0.out KN.out rfl).trans (by rw [SP]))
            clear HR SP hy
            rw [rdNum_s 2 9 y 2 (by decide) (by decide) rfl] at hz
            subst hz
            go_wp2
            refine bodyPost_ret (v := .tuple #[.agg #[.int .i64 2, .int .i64 0, .int .i64 ((y) / 2), .bool ((y) % 2 == 1)], .int .i64 2, .int .i64 0]) (by simp [results, Try.results15, go_sem, c0, c1, c2, c3, lt0]) rfl ⟨rfl, by ((repeat (first | with_reducible refine ba ?_ | with_reducible refine bd ?_ | with_reducible refine Below.drew ?_ | with_reducible refine bs ?_ (by first | exact Nat.le_refl _ | exact Nat.le_succ _))); exact BB.out)⟩
        · have n1 : (x == 1) = false := by simpa using x1
          have n9 : (x == 9) = false := by simpa using x9
          by_cases xo : x % 2 = 0
          · have no : (x % 2 == 1) = false := by simp; omega
            have KN := Lib.hid (show kindN (bAt l 0) = (0, true) by rw [HX.out]; unfold kindN; rw [if_pos xo])
            clear NO x1 x9 xo
            by_cases hs : n < 2
            · have hz : R = (zc, 0, 3) := by rw [← HR.out, rdC_num (k := 0) HM.out H0.out KN.out rfl]; exact (rdNum_short 0 l).1 (by rw [HN.out]; exact hs)
              subst hz
              clear HR
              have s1 : (n : Int) < 2 := by omega
              go_wp2
              refine bodyPost_ret (v := .tuple #[.agg #[.int .i64 0, .int .i64 0, .int .i64 0, .bool false], .int .i64 0, .int .i64 3]) (by simp [results, Try.results15, go_sem, c0, c1, c2, c3]) rfl ⟨rfl, by ((repeat (first | with_reducible refine ba ?_ | with_reducible refine bd ?_ | with_reducible refine Below.drew ?_ | with_reducible refine bs ?_ (by first | exact Nat.le_refl _ | exact Nat.le_succ _))); exact BB.out)⟩
            · have s1 : ¬ (n : Int) < 2 := by omega
              have s2 : 2 ≤ n := by omega
              have k1 := CE.out 1 (by rw [HN.out]; omega)
              have b1 := bAt_lt l 1
              have i1 : (1 : Int) < (n : Int) := by omega
              have SP : splitN l 128 = (bAt l 0, bAt l 1, 2) := split_128 (by rw [HN.out]; exact s2)
              rw [HX.out] at SP
              obtain ⟨y, hy⟩ : ∃ y, bAt l 1 = y := ⟨_, rfl⟩
              rw [hy] at k1 b1 SP
              have hz := (HR.out).symm.trans ((rdC_num (k := 0) HM.out H0.out KN.out rfl).trans (by rw [SP]))
              clear HR SP hy
              rw [rdNum_i (x) (y) 2 (by decide)] at hz
              subst hz
              go_wp2
              refine bodyPost_ret (v := .tuple #[.agg #[.int .i64 0, .int .i64 ((x) / 2), .int .i64 ((y) / 2), .bool ((y) % 2 == 1)], .int .i64 2, .int .i64 0]) (by simp [results, Try.results15, go_sem, c0, c1, c2, c3, lt0]) rfl ⟨rfl, by ((repeat (first | with_reducible refine ba ?_ | with_reducible refine bd ?_ | with_reducible refine Below.drew ?_ | with_reducible refine bs ?_ (by first | exact Nat.le_refl _ | exact Nat.le_succ _))); exact BB.out)⟩
          · have no : (x % 2 == 1) = true := by simp; omega
            have hz : R = (zc, 0, 2) := by rw [← HR.out]; exact rdC_odd HM.out H0.out (by rw [HX.out]; exact xo) (by rw [HX.out]; exact x1) (by rw [HX.out]; exact x9) NO.out
            subst hz
            clear NO x1 x9 xo HR
            go_wp2
            refine bodyPost_ret (v := .tuple #[.agg #[.int .i64 0, .int .i64 0, .int .i64 0, .bool false], .int .i64 0, .int .i64 2]) (by simp [results, Try.results15, go_sem, c0, c1, c2, c3]) rfl ⟨rfl, by ((repeat (first | with_reducible refine ba ?_ | with_reducible refine bd ?_ | with_reducible refine Below.drew ?_ | with_reducible refine bs ?_ (by first | exact Nat.le_refl _ | exact Nat.le_succ _))); exact BB.out)⟩

set_option maxHeartbeats 3000000 in
theorem refRead_32768 (A : Option Addr) (c : Nat) (l : List UInt8) (w : World) (hr : Rd w A l) (hl : l.length ≤ 1000) (h0 : l ≠ []) :
    Calls Try.prog 15 #[.slice A l.length c, .int .i64 32768] w (GivesC (rdC l 32768) w) := by
  have hM : isMod 32768 = true := rfl
  have hpos : 0 < l.length := List.length_pos_iff.mpr h0
  obtain ⟨R, hR⟩ : ∃ R, rdC l 32768 = R := ⟨_, rfl⟩
  rw [hR]
  obtain ⟨b, off, rfl, hb, hc⟩ := hr.bAt 0 hpos
  have HR := Lib.hid hR
  have HM := Lib.hid hM
  have H0 := Lib.hid h0
  obtain ⟨V, hV⟩ : ∃ V, (w.alloc (.cells #[.int .i64 0, .int .i64 0, .int .i64 0, .bool false] 23)).alloc (.cells #[.int .i64 0, .int .i64 0, .int .i64 0, .bool false] 23) = V := ⟨_, rfl⟩
  have bV : Below w.heap.size w V := by rw [← hV]; exact ba (ba (Below.refl _ _))
  have sV : V.heap.size = w.heap.size + 1 + 1 := by rw [← hV]; simp
  have g0 : V.heap[w.heap.size]? = some (.cells #[.int .i64 0, .int .i64 0, .int .i64 0, .bool false] 23 (0, 0)) := by
    rw [← hV, Below.heap_alloc _ _ _ (by simp)]
    exact heap_alloc_new w _
  have g1 : V.heap[w.heap.size + 1]? = some (.cells #[.int .i64 0, .int .i64 0, .int .i64 0, .bool false] 23 (0, 0)) := by
    rw [← hV]
    have := heap_alloc_new (w.alloc (.cells #[.int .i64 0, .int .i64 0, .int .i64 0, .bool false] 23)) (.cells #[.int .i64 0, .int .i64 0, .int .i64 0, .bool false] 23)
    rw [show (w.alloc (.cells #[.int .i64 0, .int .i64 0, .int .i64 0, .bool false] 23)).heap.size = w.heap.size + 1 by simp] at this
    exact this
  have CE : ∀ v, Below V.heap.size V v → ∀ i, i < l.length → v.cell? ⟨b, off + i, none⟩ = some (.int .u8 (bAt l i)) := fun v hv i hi =>
    ((bV.trans (hv.mono bV.size)).cell (p := ⟨b, off + i, none⟩) hb).trans (hc i hi)
  have GG : ∀ v, Below V.heap.size V v → v.heap[w.heap.size]? = some (.cells #[.int .i64 0, .int .i64 0, .int .i64 0, .bool false] 23 (0, 0)) ∧ v.heap[w.heap.size + 1]? = some (.cells #[.int .i64 0, .int .i64 0, .int .i64 0, .bool false] 23 (0, 0)) := fun v hv =>
    ⟨(hv.block _ (by omega)).trans g0, (hv.block _ (by omega)).trans g1⟩
  have HC := Lib.hid CE
  have HG := Lib.hid GG
  have HB := Lib.hid bV
  have b0 := bAt_lt l 0
  obtain ⟨x, hx⟩ : ∃ x, bAt l 0 = x := ⟨_, rfl⟩
  rw [hx] at b0
  have HX := Lib.hid hx
  clear hr hc hR h0 hM CE GG g0 g1 bV sV hx
  obtain ⟨n, hn⟩ : ∃ n, l.length = n := ⟨_, rfl⟩
  rw [hn] at hl hpos ⊢
  have HN := Lib.hid hn
  clear hn
  have l1 : ((n : Int) == 0) = false := by simp; omega
  have l2 : (0 : Int) < (n : Int) := by omega
  go_enter Try.func15, Try.ntmps15
  go_wp2_with fail
  go_loopg [8] 5 (fun kx s8 wr => ∃ k : Nat, s8 = .int .i64 (k : Int) ∧ 3 ≤ k ∧ k ≤ 8 ∧ 8 - k ≤ kx ∧ Aside (Below V.heap.size V wr) ∧ Aside (∀ j : Int, 3 ≤ j → j < (k : Int) → ¬ (x = codeOf j) ∧ ¬ (x = codeOf j + 16)))
  case atStart => exact ⟨3, rfl, by omega, by omega, by omega, Below.refl _ _, fun j h1 h2 => by omega⟩
  case round =>
    clear hV
    obtain ⟨k, rfl, hk1, hk8, hkx, HW, HA⟩ := hrel
    by_cases hk : k ≤ 7
    · have hkz : (k : Int) ≤ 7 := by omega
      have cb := code_bound (k : Int)
      have BC := fun v => bare_calls (k : Int) (by omega) v
      have KD := Lib.hid (show ∀ v, Below V.heap.size V v → v.cell? ⟨b, off, none⟩ = some (.int .u8 x) from fun v hv => by rw [← HX.out]; exact HC.out v hv 0 (by rw [HN.out]; exact hpos))
      have D0 : ∀ o, Below V.heap.size V ((wr.alloc o).drew) := fun o => (HW.out.alloc HW.out.size o).drew
      have D1 := Lib.hid D0
      have E0 : ∀ o, Below V.heap.size V (wr.drew.alloc o) := fun o => HW.out.drew.alloc HW.out.size o
      have E1 := Lib.hid E0
      have k0 := KD.out wr HW.out
      clear D0 E0
      have w0 : IntKind.i64.wrap 0 = 0 := rfl
      have w16 : IntKind.i64.wrap 16 = 16 := rfl
      have ww : IntKind.i64.wrap x = x := by rw [IntKind.wrap_i64]; omega
      have wc : IntKind.i64.wrap (codeOf (k : Int)) = codeOf (k : Int) := by rw [IntKind.wrap_i64]; omega
      have wd : IntKind.i64.wrap (codeOf (k : Int) + 16) = codeOf (k : Int) + 16 := by rw [IntKind.wrap_i64]; omega
      by_cases hx0 : x = codeOf (k : Int)
      · have e0 : (x == codeOf (k : Int)) = true := by simpa using hx0
        have hz : R = (((k : Int), 0, 0, false), 1, 0) := by rw [← HR.out]; exact rdC_bare HM.out H0.out (by omega) hkz false (by rw [HX.out, hx0, pb_f]; omega)
        subst hz
        clear hx0 HR HA
        go_wp2_with fail
        refine wp_loop_rounds 3 ?_
        rw [rounds_succ]
        go_wp2_with fail
        go_region_held (fun v => v.cell? ⟨b, off, none⟩ = some (.int .u8 x)) (first | exact k0 | exact KD.out _ (D1.out _) | exact KD.out _ (E1.out _)) ((go_at_call 23; with_reducible refine (BC _).mono ?_; rintro e w' ⟨rfl, rfl⟩))
        have HV := D1.out (.cells #[.int .i64 111, .int .i64 99, .int .i64 67, .int .i64 15, .int .i64 135] 3)
        generalize (wr.alloc (.cells #[.int .i64 111, .int .i64 99, .int .i64 67, .int .i64 15, .int .i64 135] 3)).drew = w1 at *
        obtain ⟨gz, gz1⟩ := HG.out w1 HV
        obtain ⟨c0, c1, c2, c3, f0, f1, f2, f3⟩ := zrow gz
        have BB := Lib.hid (HB.out.trans (HV.mono HB.out.size))
        clear gz gz1 HV k0
        go_wp2
        refine bodyPost_ret (v := .tuple #[.agg #[.int .i64 (k : Int), .int .i64 0, .int .i64 0, .bool false], .int .i64 1, .int .i64 0]) (by simp [results, Try.results15, go_sem, c0, c1, c2, c3]) rfl ⟨rfl, by ((repeat (first | with_reducible refine ba ?_ | with_reducible refine bd ?_ | with_reducible refine Below.drew ?_ | with_reducible refine bs ?_ (by first | exact Nat.le_refl _ | exact Nat.le_succ _))); exact BB.out)⟩
      · have e0 : (x == codeOf (k : Int)) = false := by simpa using hx0
        have X0 := Lib.hid hx0
        clear hx0
        by_cases hx1 : x = codeOf (k : Int) + 16
        · have e1 : (x == codeOf (k : Int) + 16) = true := by simpa using hx1
          have hz : R = (((k : Int), 0, 0, true), 1, 0) := by rw [← HR.out]; exact rdC_bare HM.out H0.out (by omega) hkz true (by rw [HX.out, hx1, pb_t]; omega)
          subst hz
          clear hx1 HR HA
          go_wp2_with fail
          refine wp_loop_rounds 3 ?_
          rw [rounds_succ]
          go_wp2_with fail
          go_region_held (fun v => v.cell? ⟨b, off, none⟩ = some (.int .u8 x)) (first | exact k0 | exact KD.out _ (D1.out _) | exact KD.out _ (E1.out _)) ((go_at_call 23; with_reducible refine (BC _).mono ?_; rintro e w' ⟨rfl, rfl⟩))
          have HV := Lib.hid (D1.out (.cells #[.int .i64 111, .int .i64 99, .int .i64 67, .int .i64 15, .int .i64 135] 3))
          generalize (wr.alloc (.cells #[.int .i64 111, .int .i64 99, .int .i64 67, .int .i64 15, .int .i64 135] 3)).drew = w1 at *
          have D2 := Lib.hid (show ∀ o, Below V.heap.size V ((w1.alloc o).drew) from fun o => (HV.out.alloc HV.out.size o).drew)
          have E2 := Lib.hid (show ∀ o, Below V.heap.size V (w1.drew.alloc o) from fun o => HV.out.drew.alloc HV.out.size o)
          have k1 := KD.out w1 HV.out
          clear k0
          go_wp2_with fail
          rw [rounds_succ]
          go_wp2_with fail
          go_region_held (fun v => v.cell? ⟨b, off, none⟩ = some (.int .u8 x)) (first | exact k1 | exact KD.out _ (D2.out _) | exact KD.out _ (E2.out _)) ((go_at_call 23; with_reducible refine (BC _).mono ?_; rintro e w' ⟨rfl, rfl⟩))
          have HV2 := D2.out (.cells #[.int .i64 111, .int .i64 99, .int .i64 67, .int .i64 15, .int .i64 135] 3)
          generalize (w1.alloc (.cells #[.int .i64 111, .int .i64 99, .int .i64 67, .int .i64 15, .int .i64 135] 3)).drew = w2 at *
          obtain ⟨gz, gz1⟩ := HG.out w2 HV2
          obtain ⟨c0, c1, c2, c3, f0, f1, f2, f3⟩ := zrow gz
          have BB := Lib.hid (HB.out.trans (HV2.mono HB.out.size))
          clear gz gz1 HV2 k1
          go_wp2
          refine bodyPost_ret (v := .tuple #[.agg #[.int .i64 (k : Int), .int .i64 0, .int .i64 0, .bool true], .int .i64 1, .int .i64 0]) (by simp [results, Try.results15, go_sem, c0, c1, c2, c3]) rfl ⟨rfl, by ((repeat (first | with_reducible refine ba ?_ | with_reducible refine bd ?_ | with_reducible refine Below.drew ?_ | with_reducible refine bs ?_ (by first | exact Nat.le_refl _ | exact Nat.le_succ _))); exact BB.out)⟩
        · have e1 : (x == codeOf (k : Int) + 16) = false := by simpa using hx1
          have X1 := Lib.hid hx1
          clear hx1
          have FIN : Aside (∀ j : Int, 3 ≤ j → j < ((k + 1 : Nat) : Int) → ¬ (x = codeOf j) ∧ ¬ (x = codeOf j + 16)) := by
            intro j h1 h2
            by_cases hj : j = (k : Int)
            · rw [hj]
              exact ⟨X0.out, X1.out⟩
            · exact HA.out j h1 (by omega)
          clear HA X0 X1
          go_wp2_with fail
          refine wp_loop_rounds 3 ?_
          rw [rounds_succ]
          go_wp2_with fail
          go_region_held (fun v => v.cell? ⟨b, off, none⟩ = some (.int .u8 x)) (first | exact k0 | exact KD.out _ (D1.out _) | exact KD.out _ (E1.out _)) ((go_at_call 23; with_reducible refine (BC _).mono ?_; rintro e w' ⟨rfl, rfl⟩))
          have HV := Lib.hid (D1.out (.cells #[.int .i64 111, .int .i64 99, .int .i64 67, .int .i64 15, .int .i64 135] 3))
          generalize (wr.alloc (.cells #[.int .i64 111, .int .i64 99, .int .i64 67, .int .i64 15, .int .i64 135] 3)).drew = w1 at *
          have D2 := Lib.hid (show ∀ o, Below V.heap.size V ((w1.alloc o).drew) from fun o => (HV.out.alloc HV.out.size o).drew)
          have E2 := Lib.hid (show ∀ o, Below V.heap.size V (w1.drew.alloc o) from fun o => HV.out.drew.alloc HV.out.size o)
          have k1 := KD.out w1 HV.out
          clear k0
          go_wp2_with fail
          rw [rounds_succ]
          go_wp2_with fail
          go_region_held (fun v => v.cell? ⟨b, off, none⟩ = some (.int .u8 x)) (first | exact k1 | exact KD.out _ (D2.out _) | exact KD.out _ (E2.out _)) ((go_at_call 23; with_reducible refine (BC _).mono ?_; rintro e w' ⟨rfl, rfl⟩))
          have HV2 : Aside (Below V.heap.size V ((w1.alloc (.cells #[.int .i64 111, .int .i64 99, .int .i64 67, .int .i64 15, .int .i64 135] 3)).drew)) := D2.out _
          generalize (w1.alloc (.cells #[.int .i64 111, .int .i64 99, .int .i64 67, .int .i64 15, .int .i64 135] 3)).drew = w2 at *
          clear k1
          go_wp2_with fail
          rw [rounds_succ]
          go_wp2_with fail
          go_roundg (7 - k)
          case measure => omega
          case rel => exact ⟨k + 1, by go_num, by omega, by omega, by omega, HV2, FIN⟩
    · have hkz : ¬ (k : Int) ≤ 7 := by omega
      have NO := Lib.hid (show ∀ j : Int, 3 ≤ j → j ≤ 7 → ¬ (bAt l 0 = codeOf j) ∧ ¬ (bAt l 0 = codeOf j + 16) from fun j h1 h2 => by rw [HX.out]; exact HA.out j h1 (by omega))
      obtain ⟨gz, gz1⟩ := HG.out wr HW.out
      obtain ⟨c0, c1, c2, c3, f0, f1, f2, f3⟩ := zrow gz
      obtain ⟨d0, d1, d2, d3, -, -, -, -⟩ := zrow gz1
      have lt0 : w.heap.size < wr.heap.size := World.block_lt_of_cell? wr _ c0
      have lt1 : w.heap.size + 1 < wr.heap.size := World.block_lt_of_cell? wr _ d0
      have BB := Lib.hid (HB.out.trans (HW.out.mono HB.out.size))
      have k0 : wr.cell? ⟨b, off, none⟩ = some (.int .u8 x) := by rw [← HX.out]; exact HC.out wr HW.out 0 (by rw [HN.out]; exact hpos)
      have CE := Lib.hid (HC.out wr HW.out)
      have ltb : b < wr.heap.size := World.block_lt_of_cell? wr _ k0
      clear gz gz1 HA hk1 hk8 hkx HG HB HC HW hk
      by_cases x1 : x = 1
      · subst x1
        have KN := Lib.hid (show kindN (bAt l 0) = (1, true) by rw [HX.out]; rfl)
        clear NO
        by_cases hs : n < 4
        · have hz : R = (zc, 0, 3) := by rw [← HR.out, rdC_num (k := 1) HM.out H0.out KN.out rfl]; exact (rdNum_short 1 l).2 (by rw [HN.out]; exact hs)
          subst hz
          clear HR
          have s1 : (n : Int) < 4 := by omega
          go_wp2
          refine bodyPost_ret (v := .tuple #[.agg #[.int .i64 0, .int .i64 0, .int .i64 0, .bool false], .int .i64 0, .int .i64 3]) (by simp [results, Try.results15, go_sem, c0, c1, c2, c3]) rfl ⟨rfl, by ((repeat (first | with_reducible refine ba ?_ | with_reducible refine bd ?_ | with_reducible refine Below.drew ?_ | with_reducible refine bs ?_ (by first | exact Nat.le_refl _ | exact Nat.le_succ _))); exact BB.out)⟩
        · have s1 : ¬ (n : Int) < 4 := by omega
          have s2 : 4 ≤ n := by omega
          have k1 := CE.out 1 (by rw [HN.out]; omega)
          have b1 := bAt_lt l 1
          have i1 : (1 : Int) < (n : Int) := by omega
          have k2 := CE.out 2 (by rw [HN.out]; omega)
          have k3 := CE.out 3 (by rw [HN.out]; omega)
          have b2 := bAt_lt l 2
          have b3 := bAt_lt l 3
          have i2 : (2 : Int) < (n : Int) := by omega
          have i3 : (3 : Int) < (n : Int) := by omega
          have SP : splitN l 32768 = (bAt l 0 + 256 * bAt l 1, bAt l 2 + 256 * bAt l 3, 4) := split_32768 (by rw [HN.out]; exact s2)
          rw [HX.out] at SP
          obtain ⟨y, hy⟩ : ∃ y, bAt l 1 = y := ⟨_, rfl⟩
          obtain ⟨y2, hy2⟩ : ∃ y, bAt l 2 = y := ⟨_, rfl⟩
          obtain ⟨y3, hy3⟩ : ∃ y, bAt l 3 = y := ⟨_, rfl⟩
          rw [hy] at k1 b1 SP
          rw [hy2] at k2 b2 SP
          rw [hy3] at k3 b3 SP
          have hz := (HR.out).symm.trans ((rdC_num (k := 1) HM.out H0.out KN.out rfl).trans (by rw [SP]))
          clear HR SP hy hy2 hy3
          by_cases hy0 : y = 0
          · subst hy0
            rw [rdNum_s 1 (1 + 256 * 0) (y2 + 256 * y3) 4 (by decide) (by decide) rfl] at hz
            subst hz
            go_wp2
            refine bodyPost_ret (v := .tuple #[.agg #[.int .i64 1, .int .i64 0, .int .i64 ((y2 + 256 * y3) / 2), .bool ((y2 + 256 * y3) % 2 == 1)], .int .i64 4, .int .i64 0]) (by simp [results, Try.results15, go_sem, c0, c1, c2, c3, lt0]) rfl ⟨rfl, by ((repeat (first | with_reducible refine ba ?_ | with_reducible refine bd ?_ | with_reducible refine Below.drew ?_ | with_reducible refine bs ?_ (by first | exact Nat.le_refl _ | exact Nat.le_succ _))); exact BB.out)⟩
          · have yb : (y != 0) = true := by simpa using hy0
            rw [rdNum_x 1 (1 + 256 * y) (y2 + 256 * y3) 4 (by decide) (by decide) (by rw [show codeOf 1 = 1 from rfl]; omega)] at hz
            subst hz
            clear hy0
            go_wp2
            refine bodyPost_ret (v := .tuple #[.agg #[.int .i64 0, .int .i64 0, .int .i64 0, .bool false], .int .i64 0, .int .i64 2]) (by simp [results, Try.results15, go_sem, c0, c1, c2, c3, lt0]) rfl ⟨rfl, by ((repeat (first | with_reducible refine ba ?_ | with_reducible refine bd ?_ | with_reducible refine Below.drew ?_ | with_reducible refine bs ?_ (by first | exact Nat.le_refl _ | exact Nat.le_succ _))); exact BB.out)⟩
      · by_cases x9 : x = 9
        · subst x9
          have KN := Lib.hid (show kindN (bAt l 0) = (2, true) by rw [HX.out]; rfl)
          clear NO
          by_cases hs : n < 4
          · have hz : R = (zc, 0, 3) := by rw [← HR.out, rdC_num (k := 2) HM.out H0.out KN.out rfl]; exact (rdNum_short 2 l).2 (by rw [HN.out]; exact hs)
            subst hz
            clear HR
            have s1 : (n : Int) < 4 := by omega
            go_wp2
            refine bodyPost_ret (v := .tuple #[.agg #[.int .i64 0, .int .i64 0, .int .i64 0, .bool false], .int .i64 0, .int .i64 3]) (by simp [results, Try.results15, go_sem, c0, c1, c2, c3]) rfl ⟨rfl, by ((repeat (first | with_reducible refine ba ?_ | with_reducible refine bd ?_ | with_reducible refine Below.drew ?_ | with_reducible refine bs ?_ (by first | exact Nat.le_refl _ | exact Nat.le_succ _))); exact BB.out)⟩
          · have s1 : ¬ (n : Int) < 4 := by omega
            have s2 : 4 ≤ n := by omega
            have k1 := CE.out 1 (by rw [HN.out]; omega)
            have b1 := bAt_lt l 1
            have i1 : (1 : Int) < (n : Int) := by omega
            have k2 := CE.out 2 (by rw [HN.out]; omega)
            have k3 := CE.out 3 (by rw [HN.out]; omega)
            have b2 := bAt_lt l 2
            have b3 := bAt_lt l 3
            have i2 : (2 : Int) < (n : Int) := by omega
            have i3 : (3 : Int) < (n : Int) := by omega
            have SP : splitN l 32768 = (bAt l 0 + 256 * bAt l 1, bAt l 2 + 256 * bAt l 3, 4) := split_32768 (by rw [HN.out]; exact s2)
            rw [HX.out] at SP
            obtain ⟨y, hy⟩ : ∃ y, bAt l 1 = y := ⟨_, rfl⟩
            obtain ⟨y2, hy2⟩ : ∃ y, bAt l 2 = y := ⟨_, rfl⟩
            obtain ⟨y3, hy3⟩ : ∃ y, bAt l 3 = y := ⟨_, rfl⟩
            rw [hy] at k1 b1 SP
            rw [hy2] at k2 b2 SP
            rw [hy3] at k3 b3 SP
            have hz := (HR.out).symm.trans ((rdC_num (k := 2) HM.out H0.out KN.out rfl).trans (by rw [SP]))
            clear HR SP hy hy2 hy3
            by_cases hy0 : y = 0
            · subst hy0
              rw [rdNum_s 2 (9 + 256 * 0) (y2 + 256 * y3) 4 (by decide) (by decide) rfl] at hz
              subst hz
              go_wp2
              refine bodyPost_ret (v := .tuple #[.agg #[.int .i64 2, .int .i64 0, .int .i64 ((y2 + 256 * y3) / 2), .bool ((y2 + 256 * y3) % 2 == 1)], .int .i64 4, .int .i64 0]) (by simp [results, Try.results15, go_sem, c0, c1, c2, c3, lt0]) rfl ⟨rfl, by ((repeat (first | with_reducible refine ba ?_ | with_reducible refine bd ?_ | with_reducible refine Below.drew ?_ | with_reducible refine bs ?_ (by first | exact Nat.le_refl _ | exact Nat.le_succ _))); exact BB.out)⟩
            · have yb : (y != 0) = true := by simpa using hy0
              rw [rdNum_x 2 (9 + 256 * y) (y2 + 256 * y3) 4 (by decide) (by decide) (by rw [show codeOf 2 = 9 from rfl]; omega)] at hz
              subst hz
              clear hy0
              go_wp2
              refine bodyPost_ret (v := .tuple #[.agg #[.int .i64 0, .int .i64 0, .int .i64 0, .bool false], .int .i64 0, .int .i64 2]) (by simp [results, Try.results15, go_sem, c0, c1, c2, c3, lt0]) rfl ⟨rfl, by ((repeat (first | with_reducible refine ba ?_ | with_reducible refine bd ?_ | with_reducible refine Below.drew ?_ | with_reducible refine bs ?_ (by first | exact Nat.le_refl _ | exact Nat.le_succ _))); exact BB.out)⟩
        · have n1 : (x == 1) = false := by simpa using x1
          have n9 : (x == 9) = false := by simpa using x9
          by_cases xo : x % 2 = 0
          · have no : (x % 2 == 1) = false := by simp; omega
            have KN := Lib.hid (show kindN (bAt l 0) = (0, true) by rw [HX.out]; unfold kindN; rw [if_pos xo])
            clear NO x1 x9 xo
            by_cases hs : n < 4
            · have hz : R = (zc, 0, 3) := by rw [← HR.out, rdC_num (k := 0) HM.out H0.out KN.out rfl]; exact (rdNum_short 0 l).2 (by rw [HN.out]; exact hs)
              subst hz
              clear HR
              have s1 : (n : Int) < 4 := by omega
              go_wp2
              refine bodyPost_ret (v := .tuple #[.agg #[.int .i64 0, .int .i64 0, .int .i64 0, .bool false], .int .i64 0, .int .i64 3]) (by simp [results, Try.results15, go_sem, c0, c1, c2, c3]) rfl ⟨rfl, by ((repeat (first | with_reducible refine ba ?_ | with_reducible refine bd ?_ | with_reducible refine Below.drew ?_ | with_reducible refine bs ?_ (by first | exact Nat.le_refl _ | exact Nat.le_succ _))); exact BB.out)⟩
            · have s1 : ¬ (n : Int) < 4 := by omega
              have s2 : 4 ≤ n := by omega
              have k1 := CE.out 1 (by rw [HN.out]; omega)
              have b1 := bAt_lt l 1
              have i1 : (1 : Int) < (n : Int) := by omega
              have k2 := CE.out 2 (by rw [HN.out]; omega)
              have k3 := CE.out 3 (by rw [HN.out]; omega)
              have b2 := bAt_lt l 2
              have b3 := bAt_lt l 3
              have i2 : (2 : Int) < (n : Int) := by omega
              have i3 : (3 : Int) < (n : Int) := by omega
              have SP : splitN l 32768 = (bAt l 0 + 256 * bAt l 1, bAt l 2 + 256 * bAt l 3, 4) := split_32768 (by rw [HN.out]; exact s2)
              rw [HX.out] at SP
              obtain ⟨y, hy⟩ : ∃ y, bAt l 1 = y := ⟨_, rfl⟩
              obtain ⟨y2, hy2⟩ : ∃ y, bAt l 2 = y := ⟨_, rfl⟩
              obtain ⟨y3, hy3⟩ : ∃ y, bAt l 3 = y := ⟨_, rfl⟩
              rw [hy] at k1 b1 SP
              rw [hy2] at k2 b2 SP
              rw [hy3] at k3 b3 SP
              have hz := (HR.out).symm.trans ((rdC_num (k := 0) HM.out H0.out KN.out rfl).trans (by rw [SP]))
              clear HR SP hy hy2 hy3
              rw [rdNum_i (x + 256 * y) (y2 + 256 * y3) 4 (by decide)] at hz
              subst hz
              go_wp2
              refine bodyPost_ret (v := .tuple #[.agg #[.int .i64 0, .int .i64 ((x + 256 * y) / 2), .int .i64 ((y2 + 256 * y3) / 2), .bool ((y2 + 256 * y3) % 2 == 1)], .int .i64 4, .int .i64 0]) (by simp [results, Try.results15, go_sem, c0, c1, c2, c3, lt0]) rfl ⟨rfl, by ((repeat (first | with_reducible refine ba ?_ | with_reducible refine bd ?_ | with_reducible refine Below.drew ?_ | with_reducible refine bs ?_ (by first | exact Nat.le_refl _ | exact Nat.le_succ _))); exact BB.out)⟩
          · have no : (x % 2 == 1) = true := by simp; omega
            have hz : R = (zc, 0, 2) := by rw [← HR.out]; exact rdC_odd HM.out H0.out (by rw [HX.out]; exact xo) (by rw [HX.out]; exact x1) (by rw [HX.out]; exact x9) NO.out
            subst hz
            clear NO x1 x9 xo HR
            go_wp2
            refine bodyPost_ret (v := .tuple #[.agg #[.int .i64 0, .int .i64 0, .int .i64 0, .bool false], .int .i64 0, .int .i64 2]) (by simp [results, Try.results15, go_sem, c0, c1, c2, c3]) rfl ⟨rfl, by ((repeat (first | with_reducible refine ba ?_ | with_reducible refine bd ?_ | with_reducible refine Below.drew ?_ | with_reducible refine bs ?_ (by first | exact Nat.le_refl _ | exact Nat.le_succ _))); exact BB.out)⟩

/-- The reference's ReadCtl. -/
theorem refRead_calls (A : Option Addr) (c : Nat) (l : List UInt8) (m : Int) (w : World) (hr : Rd w A l) (hl : l.length ≤ 1000) :
    Calls Try.prog 15 #[.slice A l.length c, .int .i64 m] w (GivesC (rdC l m) w) := by
  cases hm : isMod m
  · exact refRead_arg A c l m w hm
  · have h : m = 128 ∨ m = 32768 := of_decide_eq_true hm
    by_cases h0 : l = []
    · subst h0
      exact refRead_none A c m w h
    · rcases h with rfl | rfl
      · exact refRead_128 A c l w hr hl h0
      · exact refRead_32768 A c l w hr hl h0
end Go.Proofs.Ythakcaofihacdaa

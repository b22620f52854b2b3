/- The law PipeTurns, walked. Condition: the slice reads as its octets. -/
import Derived.Test.YtfneegndlkbgpaaPipWant
import Derived.Test.YtfneegndlkbgpaaPipThree
import Derived.Test.YtfneegndlkbgpaaStepApp
import Derived.Deep.RegionHeld
import Derived.Test.YtfneegndlkbgpaaPipeStallsWalk
import Derived.Deep.DeepCutAuto
namespace Go.Proofs.Ytfneegndlkbgpaa
open Go.RowKit
set_option linter.unusedVariables false

set_option maxRecDepth 20000 in
set_option maxHeartbeats 600000 in
theorem PipeTurns_main (A : Option Addr) (d : Nat) (b : List UInt8) (gone pos inn : Nat) (y : UInt8) (w : World) (hr : Rd w A b) (hl : b.length ≤ 200) (hbd : b.length ≤ d) (hdm : d ≤ maxLen) (hg : gone ≤ 300) (ha : pos ≤ 300) (hi : inn ≤ 300) :
    Calls Try.prog 6 #[.slice A b.length d, .int .i64 (gone : Int), .int .i64 (pos : Int), .int .i64 (inn : Int), bv y] w fun e w' => e = .returned (.bool true) ∧ Below w.heap.size w w' := by
  have RA := Lib.hid hr
  have DA := Lib.hid hbd
  have DB := Lib.hid hdm
  have E1 := Lib.hid (newPip_put 500 (by decide) b (by omega))
  have g1 : ¬ (200 : Int) < (b.length : Int) := by omega
  have g2 : ¬ (gone : Int) < 0 := by omega
  have g3 : ¬ (300 : Int) < (gone : Int) := by omega
  have g4 : ¬ (pos : Int) < 0 := by omega
  have g5 : ¬ (300 : Int) < (pos : Int) := by omega
  have g6 : ¬ (inn : Int) < 0 := by omega
  have g7 : ¬ (300 : Int) < (inn : Int) := by omega
  clear hr hbd hdm
  unfold bv
  go_enter Try.func6, Try.ntmps6
  go_wp2_with fail
  refine (alive_calls w).mono ?_
  rintro e W ⟨rfl, hb⟩
  have NW := new_calls 500 W
  have O1 := Lib.hid (One.fresh hb 500)
  clear hb
  go_wp2_with fail
  refine NW.mono ?_
  rintro e w1 ⟨rfl, rfl⟩
  clear NW
  generalize W.alloc (.cells (pc (newPip 500).R none 0 0 false false) 42) = w1 at *
  generalize W.heap.size = p at *
  have P1 := O1.out.put A d b (RA.out.below O1.out.bel) DA.out DB.out
  rw [show (newPip 500).put b = ⟨500, b, false, false⟩ from E1.out] at P1
  generalize (newPip 500).putN b = k1 at P1
  clear O1
  go_wp2_with fail
  refine P1.mono ?_
  rintro e w2 ⟨rfl, h2, _⟩
  clear P1
  generalize more _ _ _ = F2 at h2
  obtain ⟨A3, c3, w3, run, m3, o3, kin3⟩ := (Mid.nil w2).app A d b (RA.out.below h2.bel) (by simp; omega)
  rw [List.nil_append] at run m3
  have hc3 : c3 ≤ 9223372036854775807 := by have := m3.2.1; unfold maxLen at this; omega
  have hbc3 := m3.1
  have W0 : Want w w2 F2 p ⟨500, b, false, false⟩ none 0 [] := ⟨h2, Mid.nil _, fun k hk => by simp [blk] at hk⟩
  have W3 := Lib.hid (W0.slice o3 m3 kin3)
  clear h2 o3 kin3 W0 m3 RA DA DB E1 g1 g2 g3 g4 g5 g6 g7
  go_upto_if 59 with (at_builtin; refine Lib.wpList_append_run _ rfl _ _ _ _ rfl _ _ rfl rfl _ _ (run _) ?_)
  obtain ⟨g, hgd⟩ : ∃ g, g = min gone b.length := ⟨_, rfl⟩
  have HG := Lib.hid hgd
  have hgb : g ≤ b.length := by omega
  clear hgd
  go_cut [1] (fun s1 wx => s1 = .int .i64 (g : Int) ∧ w3 = wx)
  case first =>
    by_cases hgl : gone ≤ b.length
    · have h1 : ¬ (b.length : Int) < (gone : Int) := by omega
      have h2 : decide ((b.length : Int) < (gone : Int)) = false := decide_eq_false h1
      have h3 : decide (b.length < gone) = false := decide_eq_false (by omega)
      go_wp2
      go_meet
      case rel => exact ⟨by have := HG.out; rw [show g = gone by omega], rfl⟩
    · have h1 : (b.length : Int) < (gone : Int) := by omega
      have h2 : decide ((b.length : Int) < (gone : Int)) = true := decide_eq_true h1
      have h3 : decide (b.length < gone) = true := decide_eq_true (by omega)
      go_wp2
      go_meet
      case rel => exact ⟨by have := HG.out; rw [show g = b.length by omega], rfl⟩
  case rest =>
    obtain ⟨rfl, rfl⟩ := hcut
    clear run HG
    have hl1 : (b.drop g).length = b.length - g := by simp
    have HL := Lib.hid hl1
    go_upto_region 9 with (fail)
    go_cut [1, 13] (fun s1 s13 wx => s1 = .int .i64 (g : Int) ∧ w3 = wx ∧ ∃ B, s13 = .slice B (b.length - g) (c3 - g) ∧ Aside (Want w w3 F2 p ⟨500, b, false, false⟩ B (c3 - g) (b.drop g)))
    case first =>
      have hk0 : (0 : Int) ≤ (g : Int) := by omega
      have hk1 : (g : Int) ≤ (b.length : Int) := by omega
      have WW := Lib.hid (show ∀ B, ((c3 = g ∧ B = A3) ∨ ∃ q off, A3 = some ⟨q, off, none⟩ ∧ B = some ⟨q, off + g, none⟩) → Want w w3 F2 p ⟨500, b, false, false⟩ B (c3 - g) (b.drop g) from fun B hB =>
        W3.out.slice (Only.refl _ _) (W3.out.2.1.rest hgb B hB) (fun k hk => .inl (by
          rcases hB with ⟨_, rfl⟩ | ⟨q, off, rfl, rfl⟩
          · exact hk
          · exact hk)))
      rcases W3.out.2.1.2.2 with ⟨rfl, rfl⟩ | ⟨q, off, cur, rfl, _⟩
      · have hg0 : g = 0 := by omega
        subst hg0
        clear hbc3
        go_wp2
        go_meet
        case rel => exact ⟨rfl, rfl, none, rfl, WW.out none (.inl ⟨by first | rfl | trivial, rfl⟩)⟩
      · by_cases hcg : c3 = g
        · go_wp2
          go_meet
          case rel => exact ⟨rfl, rfl, _, by rw [show c3 - g = 0 by omega], WW.out _ (.inl ⟨hcg, rfl⟩)⟩
        · go_wp2
          go_meet
          case rel => exact ⟨rfl, rfl, _, rfl, WW.out _ (.inr ⟨q, off, rfl, rfl⟩)⟩
    case rest =>
      obtain ⟨rfl, rfl, B, rfl, HW⟩ := hcut
      clear W3
      have e4 : (⟨500, b, false, false⟩ : Pip).fault 3 (g : Int) 0 = ⟨500, b.drop g, false, false⟩ := by
        show (⟨500, b, false, false⟩ : Pip).erase (g : Int) = _
        unfold Pip.erase
        rw [show lim (g : Int) b.length = g from lim_nat hgb]
      have P4 := HW.out.1.fault 3 (g : Int) 0
      rw [e4, show (⟨500, b, false, false⟩ : Pip).faultB 3 (g : Int) = true from rfl] at P4
      clear e4
      have hn1 : b.length - g ≤ 200 := by omega
      generalize c3 - g = cB at *
      generalize b.drop g = l1 at *
      generalize b.length - g = n1 at *
      clear hl1
      go_wp2_with fail
      refine P4.mono ?_
      rintro e w4 ⟨rfl, h4, o4⟩
      have H4 := Lib.hid (HW.out.turned h4 o4)
      clear P4 h4 o4 HW
      generalize more _ _ _ = F4 at H4
      have P5 := H4.out.1.fault 4 (pos : Int) y
      obtain ⟨r, hr⟩ : ∃ r, r = decide (pos < n1) := ⟨_, rfl⟩
      have e5 : (⟨500, l1, false, false⟩ : Pip).faultB 4 (pos : Int) = r := by
        rw [hr, ← HL.out]
        exact Pip.canWrite_nat _ _ _ _ _
      rw [e5, show (⟨500, l1, false, false⟩ : Pip).fault 4 (pos : Int) y = (⟨500, l1, false, false⟩ : Pip).write (pos : Int) y from rfl] at P5
      have hr1 : decide ((pos : Int) < (n1 : Int)) = r := by rw [hr]; exact decide_eq_decide.mpr (by omega)
      have hr2 : decide (pos < n1) = r := hr.symm
      have HR := Lib.hid hr
      clear hr e5
      unfold bv at P5
      go_wp2_with fail
      refine P5.mono ?_
      rintro e w5 ⟨rfl, h5, o5⟩
      have H5 := Lib.hid (H4.out.turned h5 o5)
      clear P5 h5 o5 H4
      generalize more _ _ _ = F5 at H5
      go_upto_if 78 with (fail)
      go_cut [13] (fun s13 wx => ∃ l2 F, s13 = .slice B n1 cB ∧ Aside (Want w wx F p ⟨500, l2, false, false⟩ B cB l2 ∧ l2.length = n1))
      case first =>
        cases r
        · have hE : (⟨500, l1, false, false⟩ : Pip).write (pos : Int) y = ⟨500, l1, false, false⟩ := Pip.write_no (by have := of_decide_eq_false HR.out.symm; have := HL.out; omega) y
          rw [hE] at H5
          have H6 : Aside (Want w w5 F5 p ⟨500, l1, false, false⟩ B cB l1 ∧ l1.length = n1) := ⟨H5.out, HL.out⟩
          clear H5 hE
          go_wp2
          go_meet
          case rel => exact ⟨l1, F5, rfl, H6⟩
        · have hE : (⟨500, l1, false, false⟩ : Pip).write (pos : Int) y = ⟨500, l1.set pos y, false, false⟩ := Pip.write_yes (by have := of_decide_eq_true HR.out.symm; have := HL.out; omega) y
          rw [hE] at H5
          have hpn : pos < n1 := of_decide_eq_true HR.out.symm
          obtain ⟨q, off, rfl, k1, k2, k3⟩ := H5.out.2.1.place (j := pos) (by rw [HL.out]; exact hpn)
          have H6 : Aside (Want w (w5.setCell ⟨q, off + pos, none⟩ (.int .u8 (y.toNat : Int))) F5 p ⟨500, l1.set pos y, false, false⟩ (some ⟨q, off, none⟩) cB (l1.set pos y) ∧ (l1.set pos y).length = n1) :=
            ⟨H5.out.slice ((Only.refl (fun k => blk (some ⟨q, off, none⟩) = some k) w5).setCell (p := ⟨q, off + pos, none⟩) (.inl rfl) _) (k3 y) (fun k hk => .inl hk), by simp [HL.out]⟩
          have hpz : (pos : Int) < (n1 : Int) := by omega
          generalize l1.getD pos 0 = z at k1
          unfold bv at k1
          clear H5 hE k3
          go_wp2
          go_meet
          case rel => exact ⟨_, F5, rfl, H6⟩
      case rest =>
        obtain ⟨l2, F6, rfl, HW⟩ := hcut
        clear H5 HL HR hr1 hr2
        obtain ⟨r2, hr⟩ : ∃ r2, r2 = decide (inn ≤ n1) := ⟨_, rfl⟩
        have P7 := HW.out.1.1.fault 5 (inn : Int) y
        have h500 : l2.length < 500 := by rw [HW.out.2]; omega
        have e7 : (⟨500, l2, false, false⟩ : Pip).faultB 5 (inn : Int) = r2 := by
          rw [hr, ← HW.out.2]
          exact Pip.canInsert_nat h500 _ _ _
        rw [e7, show (⟨500, l2, false, false⟩ : Pip).fault 5 (inn : Int) y = (⟨500, l2, false, false⟩ : Pip).insert (inn : Int) y from rfl] at P7
        have hr1 : decide ((inn : Int) ≤ (n1 : Int)) = r2 := by rw [hr]; exact decide_eq_decide.mpr (by omega)
        have hr2 : decide (inn ≤ n1) = r2 := hr.symm
        have HR := Lib.hid hr
        have H500 := Lib.hid h500
        clear hr e7 h500
        unfold bv at P7
        go_wp2_with fail
        refine P7.mono ?_
        rintro e w7 ⟨rfl, h7, o7⟩
        have H7 := Lib.hid (HW.out.1.turned h7 o7)
        have HL := Lib.hid HW.out.2
        clear P7 h7 o7 HW
        generalize more _ _ _ = F7 at H7
        go_upto_if 93 with (fail)
        go_cut [13] (fun s13 wx => ∃ l3 F B' c', s13 = .slice B' l3.length c' ∧ Aside (Want w wx F p ⟨500, l3, false, false⟩ B' c' l3 ∧ l3.length ≤ 201))
        case first =>
          cases r2
          · have hE : (⟨500, l2, false, false⟩ : Pip).insert (inn : Int) y = ⟨500, l2, false, false⟩ := Pip.insert_no H500.out (by have := of_decide_eq_false HR.out.symm; have := HL.out; omega) y
            rw [hE] at H7
            have H8 : Aside (Want w w7 F7 p ⟨500, l2, false, false⟩ B cB l2 ∧ l2.length ≤ 201) := ⟨H7.out, by rw [HL.out]; omega⟩
            clear H7 hE
            go_wp2
            go_meet
            case rel => exact ⟨l2, F7, B, cB, by rw [HL.out], H8⟩
          · have hin : inn ≤ n1 := of_decide_eq_true HR.out.symm
            have hE : (⟨500, l2, false, false⟩ : Pip).insert (inn : Int) y = ⟨500, l2.take inn ++ y :: l2.drop inn, false, false⟩ := Pip.insert_yes H500.out (by have := HL.out; omega) y
            rw [hE] at H7
            clear hE
            have hcap := H7.out.2.1.1
            rw [HL.out] at hcap
            have hc63 : cB ≤ 9223372036854775807 := by have := H7.out.2.1.2.1; unfold maxLen at this; omega
            have R1 : ∀ V, Below w7.drew.heap.size w7.drew V → Rd V B (l2.take inn) := fun V hV => (show Rd w7.drew B (l2.take inn) from H7.out.2.1.rd.front _).below hV
            have RR : ∀ B', ((cB = inn ∧ B' = B) ∨ ∃ q off, B = some ⟨q, off, none⟩ ∧ B' = some ⟨q, off + inn, none⟩) → ∀ V, Below w7.drew.heap.size w7.drew V → Rd V B' (l2.drop inn) := fun B' hB V hV =>
              (show Rd w7.drew B' (l2.drop inn) from (H7.out.2.1.rest (by rw [HL.out]; exact hin) B' hB).rd).below hV
            have k1 : (0 : Int) ≤ (inn : Int) := by omega
            have k2 : (inn : Int) ≤ (cB : Int) := by omega
            have k3 : (inn : Int) ≤ (n1 : Int) := by omega
            obtain ⟨L, hL⟩ : ∃ L, n1 + 1 = L := ⟨_, rfl⟩
            have FIN := Lib.hid (show ∀ V3 A3 c3, Thrd w7.drew V3 A3 c3 (l2.take inn ++ y :: l2.drop inn) → Aside (Want w V3 F7 p ⟨500, l2.take inn ++ y :: l2.drop inn, false, false⟩ A3 c3 (l2.take inn ++ y :: l2.drop inn) ∧ (l2.take inn ++ y :: l2.drop inn).length ≤ 201) from fun V3 A3 c3 ht => by
              obtain ⟨a1, a2, a3⟩ := ht.only B
              exact ⟨(H7.out.drewN 1).slice a1 a2 a3, by rw [ins_length l2 inn y (by rw [HL.out]; exact hin), HL.out]; omega⟩)
            have hLL := Lib.hid (show (l2.take inn ++ y :: l2.drop inn).length = L by rw [ins_length l2 inn y (by rw [HL.out]; exact hin), HL.out]; exact hL)
            have TA := Lib.hid (fun B' d' R' => three_a (cB := cB) (d' := d') (y := y) (B' := B') R1 R' hin HL.out (by omega) L hL)
            have TB := Lib.hid (fun B' d' R' => three_b (cB := cB) (d' := d') (y := y) (B' := B') R1 R' hin HL.out (by omega) L hL)
            have RH := Lib.hid RR
            have HA := Lib.hid H7.out.2.1.2.2
            have HC0 := Lib.hid hL
            clear RR R1 H7 hL hr1 hr2
            generalize l2.take inn ++ y :: l2.drop inn = l3 at *
            rcases HA.out with ⟨rfl, rfl⟩ | ⟨q, off, cur, rfl, _⟩
            · have h0 : 0 = inn := by omega
              subst h0
              obtain ⟨A1, c1, V1, r1, A2, c2, V2, r2, A3, c3, V3, r3, t3⟩ := TA.out none 0 (RH.out none (.inl ⟨rfl, rfl⟩))
              obtain ⟨A1', c1', V1', r1', A2', c2', V2', r2', A3', c3', V3', r3', t3'⟩ := TB.out none 0 (RH.out none (.inl ⟨rfl, rfl⟩))
              have X := Lib.hid (FIN.out V3 A3 c3 t3)
              have X' := Lib.hid (FIN.out V3' A3' c3' t3')
              clear t3 t3' TA TB RH FIN HA
              have r2x : ∀ ty, (Builtin.append_ #[28, 28] ty #[.slice A1 0 c1, .slice (some ⟨V1.heap.size, 0, none⟩) 1 1]).run Try.prog (V1.alloc (.cells #[.int .u8 (y.toNat : Int)] 5)) = .ok (.slice A2 1 c2) V2 := r2
              have r1x : ∀ ty, (Builtin.append_ #[28, 28] ty #[.slice none 0 0, .slice none 0 0]).run Try.prog (w7.drew.alloc (.cells #[.int .u8 (y.toNat : Int)] 5)) = .ok (.slice A1' 0 c1') V1' := r1'
              have r2y : ∀ ty, (Builtin.append_ #[28, 28] ty #[.slice A1' 0 c1', .slice (some ⟨w7.heap.size, 0, none⟩) 1 1]).run Try.prog V1' = .ok (.slice A2' 1 c2') V2' := r2'
              rw [show n1 - 0 = 0 by omega] at r3 r3'
              have r3x : ∀ ty, (Builtin.append_ #[28, 28] ty #[.slice A2 1 c2, .slice none 0 0]).run Try.prog V2 = .ok (.slice A3 L c3) V3 := r3
              have r3y : ∀ ty, (Builtin.append_ #[28, 28] ty #[.slice A2' 1 c2', .slice none 0 0]).run Try.prog V2' = .ok (.slice A3' L c3') V3' := r3'
              clear r2 r1' r2' r3 r3'
              go_wp2_with fail
              go_region_law (first
                | ((with_reducible refine step_append_run _ ?_ (.const (.slice none 0 0)) (.tmp 96) _ _ ?_ _ _ ?_ ?_ _ _ (r1 _) ?_); rfl; rfl; (focus (first | (simp [Act.eval]; done) | (simp [Act.eval, Act.put]; done))); (focus (first | (simp [Act.eval]; done) | (simp [Act.eval, Act.put]; done))))
                | ((with_reducible refine step_append_run _ ?_ (.const (.slice none 0 0)) (.tmp 96) _ _ ?_ _ _ ?_ ?_ _ _ (r1x _) ?_); rfl; rfl; (focus (first | (simp [Act.eval]; done) | (simp [Act.eval, Act.put]; done))); (focus (first | (simp [Act.eval]; done) | (simp [Act.eval, Act.put]; done))))
                | ((with_reducible refine step_append_run _ ?_ (.tmp 97) (.tmp 99) _ _ ?_ _ _ ?_ ?_ _ _ (r2x _) ?_); rfl; rfl; (focus (first | (simp [Act.eval]; done) | (simp [Act.eval, Act.put]; done))); (focus (first | (simp [Act.eval]; done) | (simp [Act.eval, Act.put]; done))))
                | ((with_reducible refine step_append_run _ ?_ (.tmp 97) (.tmp 99) _ _ ?_ _ _ ?_ ?_ _ _ (r2y _) ?_); rfl; rfl; (focus (simp [Act.eval]; done)); (focus (simp [Act.eval]; done)))
                | ((with_reducible refine step_append_run _ ?_ (.tmp 100) (.tmp 103) _ _ ?_ _ _ ?_ ?_ _ _ (r3x _) ?_); rfl; rfl; (focus (simp [Act.eval]; done)); (focus (simp [Act.eval]; done)))
                | ((with_reducible refine step_append_run _ ?_ (.tmp 100) (.tmp 103) _ _ ?_ _ _ ?_ ?_ _ _ (r3y _) ?_); rfl; rfl; (focus (simp [Act.eval]; done)); (focus (simp [Act.eval]; done))))
              all_goals
                go_wp2
                go_meet
                case rel => first | exact ⟨l3, F7, A3, c3, by rw [hLL.out], X.out⟩ | exact ⟨l3, F7, A3', c3', by rw [hLL.out], X'.out⟩
            · by_cases hcg : cB = inn
              · subst hcg
                obtain ⟨A1, c1, V1, r1, A2, c2, V2, r2, A3, c3, V3, r3, t3⟩ := TA.out (some ⟨q, off, none⟩) 0 (RH.out (some ⟨q, off, none⟩) (.inl ⟨rfl, rfl⟩))
                obtain ⟨A1', c1', V1', r1', A2', c2', V2', r2', A3', c3', V3', r3', t3'⟩ := TB.out (some ⟨q, off, none⟩) 0 (RH.out (some ⟨q, off, none⟩) (.inl ⟨rfl, rfl⟩))
                have X := Lib.hid (FIN.out V3 A3 c3 t3)
                have X' := Lib.hid (FIN.out V3' A3' c3' t3')
                clear t3 t3' TA TB RH FIN HA
                have r2x : ∀ ty, (Builtin.append_ #[28, 28] ty #[.slice A1 cB c1, .slice (some ⟨V1.heap.size, 0, none⟩) 1 1]).run Try.prog (V1.alloc (.cells #[.int .u8 (y.toNat : Int)] 5)) = .ok (.slice A2 (cB + 1) c2) V2 := r2
                have r1x : ∀ ty, (Builtin.append_ #[28, 28] ty #[.slice none 0 0, .slice (some ⟨q, off, none⟩) cB cB]).run Try.prog (w7.drew.alloc (.cells #[.int .u8 (y.toNat : Int)] 5)) = .ok (.slice A1' cB c1') V1' := r1'
                have r2y : ∀ ty, (Builtin.append_ #[28, 28] ty #[.slice A1' cB c1', .slice (some ⟨w7.heap.size, 0, none⟩) 1 1]).run Try.prog V1' = .ok (.slice A2' (cB + 1) c2') V2' := r2'
                rw [show n1 - cB = 0 by omega] at r3 r3'
                have r3x : ∀ ty, (Builtin.append_ #[28, 28] ty #[.slice A2 (cB + 1) c2, .slice (some ⟨q, off, none⟩) 0 0]).run Try.prog V2 = .ok (.slice A3 L c3) V3 := r3
                have r3y : ∀ ty, (Builtin.append_ #[28, 28] ty #[.slice A2' (cB + 1) c2', .slice (some ⟨q, off, none⟩) 0 0]).run Try.prog V2' = .ok (.slice A3' L c3') V3' := r3'
                clear r2 r1' r2' r3 r3'
                go_wp2_with fail
                go_region_law (first
                  | ((with_reducible refine step_append_run _ ?_ (.const (.slice none 0 0)) (.tmp 96) _ _ ?_ _ _ ?_ ?_ _ _ (r1 _) ?_); rfl; rfl; (focus (first | (simp [Act.eval]; done) | (simp [Act.eval, Act.put]; done))); (focus (first | (simp [Act.eval]; done) | (simp [Act.eval, Act.put]; done))))
                  | ((with_reducible refine step_append_run _ ?_ (.const (.slice none 0 0)) (.tmp 96) _ _ ?_ _ _ ?_ ?_ _ _ (r1x _) ?_); rfl; rfl; (focus (first | (simp [Act.eval]; done) | (simp [Act.eval, Act.put]; done))); (focus (first | (simp [Act.eval]; done) | (simp [Act.eval, Act.put]; done))))
                  | ((with_reducible refine step_append_run _ ?_ (.tmp 97) (.tmp 99) _ _ ?_ _ _ ?_ ?_ _ _ (r2x _) ?_); rfl; rfl; (focus (first | (simp [Act.eval]; done) | (simp [Act.eval, Act.put]; done))); (focus (first | (simp [Act.eval]; done) | (simp [Act.eval, Act.put]; done))))
                  | ((with_reducible refine step_append_run _ ?_ (.tmp 97) (.tmp 99) _ _ ?_ _ _ ?_ ?_ _ _ (r2y _) ?_); rfl; rfl; (focus (simp [Act.eval]; done)); (focus (simp [Act.eval]; done)))
                  | ((with_reducible refine step_append_run _ ?_ (.tmp 100) (.tmp 103) _ _ ?_ _ _ ?_ ?_ _ _ (r3x _) ?_); rfl; rfl; (focus (simp [Act.eval]; done)); (focus (simp [Act.eval]; done)))
                  | ((with_reducible refine step_append_run _ ?_ (.tmp 100) (.tmp 103) _ _ ?_ _ _ ?_ ?_ _ _ (r3y _) ?_); rfl; rfl; (focus (simp [Act.eval]; done)); (focus (simp [Act.eval]; done))))
                all_goals
                  go_wp2
                  go_meet
                  case rel => first | exact ⟨l3, F7, A3, c3, by rw [hLL.out], X.out⟩ | exact ⟨l3, F7, A3', c3', by rw [hLL.out], X'.out⟩
              · skip
                obtain ⟨A1, c1, V1, r1, A2, c2, V2, r2, A3, c3, V3, r3, t3⟩ := TA.out (some ⟨q, off + inn, none⟩) (cB - inn) (RH.out (some ⟨q, off + inn, none⟩) (.inr ⟨q, off, rfl, rfl⟩))
                obtain ⟨A1', c1', V1', r1', A2', c2', V2', r2', A3', c3', V3', r3', t3'⟩ := TB.out (some ⟨q, off + inn, none⟩) (cB - inn) (RH.out (some ⟨q, off + inn, none⟩) (.inr ⟨q, off, rfl, rfl⟩))
                have X := Lib.hid (FIN.out V3 A3 c3 t3)
                have X' := Lib.hid (FIN.out V3' A3' c3' t3')
                clear t3 t3' TA TB RH FIN HA
                have r2x : ∀ ty, (Builtin.append_ #[28, 28] ty #[.slice A1 inn c1, .slice (some ⟨V1.heap.size, 0, none⟩) 1 1]).run Try.prog (V1.alloc (.cells #[.int .u8 (y.toNat : Int)] 5)) = .ok (.slice A2 (inn + 1) c2) V2 := r2
                have r1x : ∀ ty, (Builtin.append_ #[28, 28] ty #[.slice none 0 0, .slice (some ⟨q, off, none⟩) inn cB]).run Try.prog (w7.drew.alloc (.cells #[.int .u8 (y.toNat : Int)] 5)) = .ok (.slice A1' inn c1') V1' := r1'
                have r2y : ∀ ty, (Builtin.append_ #[28, 28] ty #[.slice A1' inn c1', .slice (some ⟨w7.heap.size, 0, none⟩) 1 1]).run Try.prog V1' = .ok (.slice A2' (inn + 1) c2') V2' := r2'
                have r3x : ∀ ty, (Builtin.append_ #[28, 28] ty #[.slice A2 (inn + 1) c2, .slice (some ⟨q, off + inn, none⟩) (n1 - inn) (cB - inn)]).run Try.prog V2 = .ok (.slice A3 L c3) V3 := r3
                have r3y : ∀ ty, (Builtin.append_ #[28, 28] ty #[.slice A2' (inn + 1) c2', .slice (some ⟨q, off + inn, none⟩) (n1 - inn) (cB - inn)]).run Try.prog V2' = .ok (.slice A3' L c3') V3' := r3'
                clear r2 r1' r2' r3 r3'
                go_wp2_with fail
                go_region_law (first
                  | ((with_reducible refine step_append_run _ ?_ (.const (.slice none 0 0)) (.tmp 96) _ _ ?_ _ _ ?_ ?_ _ _ (r1 _) ?_); rfl; rfl; (focus (first | (simp [Act.eval]; done) | (simp [Act.eval, Act.put]; done))); (focus (first | (simp [Act.eval]; done) | (simp [Act.eval, Act.put]; done))))
                  | ((with_reducible refine step_append_run _ ?_ (.const (.slice none 0 0)) (.tmp 96) _ _ ?_ _ _ ?_ ?_ _ _ (r1x _) ?_); rfl; rfl; (focus (first | (simp [Act.eval]; done) | (simp [Act.eval, Act.put]; done))); (focus (first | (simp [Act.eval]; done) | (simp [Act.eval, Act.put]; done))))
                  | ((with_reducible refine step_append_run _ ?_ (.tmp 97) (.tmp 99) _ _ ?_ _ _ ?_ ?_ _ _ (r2x _) ?_); rfl; rfl; (focus (first | (simp [Act.eval]; done) | (simp [Act.eval, Act.put]; done))); (focus (first | (simp [Act.eval]; done) | (simp [Act.eval, Act.put]; done))))
                  | ((with_reducible refine step_append_run _ ?_ (.tmp 97) (.tmp 99) _ _ ?_ _ _ ?_ ?_ _ _ (r2y _) ?_); rfl; rfl; (focus (simp [Act.eval]; done)); (focus (simp [Act.eval]; done)))
                  | ((with_reducible refine step_append_run _ ?_ (.tmp 100) (.tmp 103) _ _ ?_ _ _ ?_ ?_ _ _ (r3x _) ?_); rfl; rfl; (focus (simp [Act.eval]; done)); (focus (simp [Act.eval]; done)))
                  | ((with_reducible refine step_append_run _ ?_ (.tmp 100) (.tmp 103) _ _ ?_ _ _ ?_ ?_ _ _ (r3y _) ?_); rfl; rfl; (focus (simp [Act.eval]; done)); (focus (simp [Act.eval]; done))))
                all_goals
                  go_wp2
                  go_meet
                  case rel => first | exact ⟨l3, F7, A3, c3, by rw [hLL.out], X.out⟩ | exact ⟨l3, F7, A3', c3', by rw [hLL.out], X'.out⟩
        case rest =>
          obtain ⟨l3, F8, B8, c8, rfl, HW⟩ := hcut
          have P9 := HW.out.1.1.take 1000
          rw [show (⟨500, l3, false, false⟩ : Pip).takeL 1000 = l3 by unfold Pip.takeL; show l3.take (lim 1000 l3.length) = l3; rw [lim_all (by have := HW.out.2; omega), List.take_length]] at P9
          have HK := Lib.hid (show ∀ v, Only F8 wc v → (convert 28 9 (.slice B8 l3.length c8)).run Try.prog v = .ok (.string ⟨l3.toArray⟩) v from fun v hv => run_conv v B8 c8 l3 (HW.out.1.2.1.only hv (fun k hk => (HW.out.1.2.2 k hk).1)).rd)
          have P10 : Calls Try.prog 12 #[.pointer (some ⟨p, 0, none⟩), .int .i64 1000] wc.drew fun e v' => Taken l3 wc e v' ∧ Below w.heap.size w v' ∧ Only F8 wc v' := by
            have := (HW.out.1.1.drewN 1).take 1000
            rw [show (⟨500, l3, false, false⟩ : Pip).takeL 1000 = l3 by unfold Pip.takeL; show l3.take (lim 1000 l3.length) = l3; rw [lim_all (by have := HW.out.2; omega), List.take_length]] at this
            exact this.mono fun _ _ ⟨h1, h2, h3⟩ => ⟨h1, h2.bel, (Only.drew F8 wc).trans h3 (fun _ _ h => h)⟩
          have q0 := HK.out wc.drew (Only.drew F8 wc)
          clear P9 HW
          go_wp2_with fail
          go_region_held (fun w' => (convert 28 9 (.slice B8 l3.length c8)).run Try.prog w' = .ok (.string ⟨l3.toArray⟩) w') (first | exact q0 | exact HK.out _ (by assumption)) (first | (go_at_call 12; refine P10.mono ?_; rintro e v9 ⟨⟨A9, c9, rfl, own9⟩, b9, o9⟩; have q9 := run_conv v9 A9 c9 l3 own9.rd; unfold strV at q9))
          all_goals
            go_wp2
            go_ret
            exact ⟨rfl, b9⟩
end Go.Proofs.Ytfneegndlkbgpaa

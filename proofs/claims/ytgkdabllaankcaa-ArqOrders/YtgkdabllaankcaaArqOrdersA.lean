/- The law ArqOrders, walked: narrow numbers. No condition. -/
import Derived.Test.YtgkdabllaankcaaOrdStart
import Derived.Test.YtgkdabllaankcaaIntRows
import Derived.Test.YtgkdabllaankcaaG2
import Derived.Deep.LoopGhost
import Derived.Deep.RegionLaw
import Derived.BigQuiet
import Derived.StillTailTactics
import Derived.Deep.CutBlock
import Derived.Lib.SlBytesConst
namespace Go.Proofs.Ytgkdabllaankcaa
open Go.RowKit
set_option linter.unusedVariables false
section
variable {w v v' : World} {H : Nat → Prop}
set_option maxRecDepth 20000 in
set_option maxHeartbeats 16000000 in
theorem ArqOrders_narrow (W : Nat) (A : Option Addr) (cap : Nat) (l : List Int) (w : World) (hr : RdI w A l) (hl : l.length ≤ 300) (h1 : 1 ≤ W) (h2 : W ≤ 16) :
    Calls Try.prog 3 #[.bool false, .int .i64 (W : Int), .slice A l.length cap] w fun e w' => e = .returned (.bool true) ∧ Below w.heap.size w w' := by
  have i0 : decide ((300 : Int) < (l.length : Int)) = false := decide_eq_false (by omega)
  have i1 : decide ((W : Int) < 1) = false := decide_eq_false (by omega)
  have i2 : decide ((16 : Int) < (W : Int)) = false := decide_eq_false (by omega)
  have j0 : ¬ (300 : Int) < (l.length : Int) := by omega
  have j1 : ¬ (W : Int) < 1 := by omega
  have j2 : ¬ (16 : Int) < (W : Int) := by omega
  have HT0 : Aside (∃ a, Two 128 W 0 (upP (ordC 128 (W : Int))) a) := ⟨_, two_start (M := 128) (.inl rfl) h1 h2⟩
  have UC := fun (v : World) (hv : Below w.heap.size w v) => up_calls (ordC 128 (W : Int)) hv
  unfold cfv cfc ordC at UC
  have HU := Lib.hid UC
  clear UC
  generalize hL : l.length = L at *
  have HL := Lib.hid (And.intro hL hl)
  have HR := Lib.hid hr
  clear hL hr hl
  go_enter Try.func3, Try.ntmps3
  go_wp2_with fail
  refine (alive_calls w).mono ?_
  rintro e V ⟨rfl, hb⟩
  have HB := Lib.hid hb
  clear hb
  have SC := shape_calls 128 (W : Int) 20 V
  unfold cfv cfc shapeC at SC
  go_wp2_with fail
  refine SC.mono ?_
  rintro e w1 ⟨rfl, be1⟩
  have HB1 := Lib.hid (HB.out.trans (be1.mono HB.out.size))
  clear SC HB be1
  go_wp2_with fail
  refine (HU.out _ (HB1.out.alloc HB1.out.size _)).mono ?_
  rintro e w2 ⟨P, b, rfl, o⟩
  change PrOne _ w w2 P b (upP (ordC 128 (W : Int))) at o
  have S0 := o.state false
  have S1 := o.state true
  rw [two_state] at S0 S1
  have k0 : w2.cell? ⟨P, 0, none⟩ = some (.pointer (some ⟨b false, 0, none⟩)) := o.ptr false
  have k1 : w2.cell? ⟨P, 1, none⟩ = some (.pointer (some ⟨b true, 0, none⟩)) := o.ptr true
  have H0 : Aside (PrOne (fun _ => False) w w2 P b (upP (ordC 128 (W : Int))) ∧ ∃ a, Two 128 W 0 (upP (ordC 128 (W : Int))) a) := ⟨o, HT0.out⟩
  clear o HU HB1 HT0
  generalize upP (ordC 128 (W : Int)) = p0 at *
  go_wp2_with fail
  refine S0.mono ?_
  rintro e v1 ⟨rfl, hv⟩
  obtain rfl := hv.symm
  go_wp2_with fail
  refine S1.mono ?_
  rintro e v1 ⟨rfl, hv⟩
  obtain rfl := hv.symm
  clear S0 S1 k0 k1
  go_wp2_with fail
  go_loopg [11, 12] L (fun kx s11 s12 wr => ∃ (j n : Nat) (q : Pr), s11 = .int .i64 (n : Int) ∧ s12 = .int .i64 (j : Int) ∧ j ≤ L ∧ L - j ≤ kx ∧ n ≤ j ∧ Aside (PrOne (fun _ => False) w wr P b q ∧ ∃ a, Two 128 W j q a))
  case atStart => exact ⟨0, 0, p0, rfl, rfl, by omega, by omega, by omega, H0⟩
  case round =>
    clear H0
    clear p0
    obtain ⟨j, n, q, rfl, rfl, hj, hjx, hn, HO⟩ := hrel
    by_cases hjL : j < L
    · have g0 : (j : Int) < (L : Int) := by omega
      have g1 : (0 : Int) ≤ (j : Int) := by omega
      have hj3 : j < 300 := by have := HL.out.2; omega
      have h := HO.out.1
      obtain ⟨g, off, rfl, -, kc⟩ := (HR.out.below h.bel).at_ (k := j) (by rw [HL.out.1]; exact hjL)
      have and1 := i64_and1 (l.getD j 0)
      have and7 := i64_and7 (l.getD j 0 / 2)
      have and15 := i64_and15 (l.getD j 0 / 16)
      generalize l.getD j 0 = z at *
      obtain ⟨e15, he0, he1, he⟩ : ∃ e : Int, 0 ≤ e ∧ e < 16 ∧ z / 16 % 16 = e := ⟨z / 16 % 16, by omega, by omega, rfl⟩
      rw [he] at and15
      clear he
      obtain ⟨i, hi⟩ : ∃ i : Bool, z % 2 = (i.toNat : Int) := by
        rcases (show z % 2 = 0 ∨ z % 2 = 1 by omega) with e | e
        · exact ⟨false, e⟩
        · exact ⟨true, e⟩
      rw [hi] at and1
      clear hi
      have hyl : i.toNat < 2 := by cases i <;> decide
      obtain ⟨yn, hyn⟩ : ∃ yn : Nat, i.toNat = yn := ⟨_, rfl⟩
      rw [hyn] at and1 hyl
      have HN := Lib.hid hyn
      clear hyn
      have y0 : (0 : Int) ≤ (yn : Int) := by omega
      have y1 : (yn : Int) < 2 := by omega
      obtain ⟨cc, hcc, hcc'⟩ : ∃ cc : Int, ((cc = 0 ∨ cc = 1) ∨ cc = 2 ∨ cc = 3 ∨ cc = 4 ∨ (5 ≤ cc ∧ cc ≤ 7)) ∧ z / 2 % 8 = cc := ⟨z / 2 % 8, by omega, rfl⟩
      rw [hcc'] at and7
      clear hcc'
      go_upto_block 2 with (fail)
      go_cut [11, 14, 15] from 77 to 150 (fun s11 s14 s15 wx => ∃ (n' : Nat) (r : Pr), s11 = .int .i64 (n' : Int) ∧ n' ≤ j + 1 ∧ Aside (PrOne (fun _ => False) w wx P b r ∧ r.Room ∧ ((∃ a, Two 128 W (j + 1) r.collect a) ∨ r.collect.downs = 1)))
      case first =>
        rcases hcc with hc01 | rfl | rfl | rfl | hc
        · go_upto_if 80 with (fail)
          go_cut [80] from 81 to 84 (fun s80 wx => s80 = .bool true ∧ wr = wx)
          case first =>
            rcases hc01 with rfl | rfl
            all_goals
              go_wp2_with fail
              go_meet
              case rel => exact ⟨rfl, rfl⟩
          case rest =>
            obtain ⟨rfl, rfl⟩ := hcut
            have hlb : IntKind.u8.wrap (n : Int) = ((UInt8.ofNat n).toNat : Int) := by rw [IntKind.wrap_u8, UInt8.toNat_ofNat']; omega
            have hhb : (n : Int) / 256 = ((UInt8.ofNat (n / 256)).toNat : Int) := by rw [UInt8.toNat_ofNat']; omega
            generalize UInt8.ofNat (n / 256) = hb at *
            generalize UInt8.ofNat n = lb at *
            have bel := laid_below wr [lb, hb]
            have h' := h.grow bel
            have k0 : (laid wr [lb, hb]).cell? ⟨P, yn, none⟩ = some (.pointer (some ⟨b i, 0, none⟩)) := by have := h'.ptr i; rw [HN.out] at this; exact this
            have kc' : (laid wr [lb, hb]).cell? ⟨g, off + j, none⟩ = some (.int .i64 z) := (bel.cell (World.block_lt_of_cell? wr _ kc)).trans kc
            obtain ⟨a, ha⟩ := HO.out.2
            have rA := ha.roomA (by omega) i
            have hW := (ha.cfg i).w
            have SN := h'.send i (by rw [rA.2.1]; omega) (by have := rA.2.2.1; omega) (some ⟨wr.heap.size, 0, none⟩) 2 [lb, hb] (laid_rd wr _) (by show 2 ≤ 1048576; decide)
            have FF := ha.send h2 (by omega) (!i) [lb, hb] (by show 2 ≤ 50; decide)
            rw [Bool.not_not] at FF
            rcases FF with ⟨f1, f2⟩ | ⟨f1, f2, f3⟩
            · replace f1 : (q.a i).giveE [lb, hb] = 6 := f1
              replace f2 : (q.a i).give [lb, hb] = q.a i := f2
              rw [f1, f2, Pr.setA_self] at SN
              obtain ⟨g3, g4⟩ := ha.roomP (by omega)
              have HC := Lib.hid (And.intro g3 (show ∃ a', Two 128 W (j + 1) q.collect a' from ⟨a, by rw [g4]; exact ha.mono (Nat.le_succ _)⟩))
              have NM := fun v => num_calls 6 v
              have SN : Calls Try.prog 11 #[.pointer (some ⟨b i, 0, none⟩), .slice (some ⟨wr.heap.size, 0, none⟩) 2 2] (wr.alloc (.cells #[.int .u8 (lb.toNat : Int), .int .u8 (hb.toNat : Int)] 5)) _ := SN
              have k0 : (wr.alloc (.cells #[.int .u8 (lb.toNat : Int), .int .u8 (hb.toNat : Int)] 5)).cell? ⟨P, yn, none⟩ = some (.pointer (some ⟨b i, 0, none⟩)) := k0
              clear h h' ha rA hW f1 f2 g3 g4 HO bel kc'
              go_wp2_with fail
              refine SN.mono ?_
              rintro e w4 ⟨rfl, h4, -, -⟩
              have H4 := Lib.hid (h4.less (G := fun _ => False) (fun _ h => h.elim))
              clear SN h4 k0
              go_wp2_with fail
              refine (NM _).mono ?_
              rintro e w5 ⟨rfl, hv⟩
              obtain rfl := hv.symm
              go_wp2_with fail
              refine (NM _).mono ?_
              rintro e w5 ⟨rfl, hv⟩
              obtain rfl := hv.symm
              have h5 := H4.out
              clear NM H4
              have HX := Lib.hid (show PrOne (fun _ => False) w _ P b (q) ∧ (q).Room ∧ ((∃ a', Two 128 W (j + 1) (q).collect a') ∨ (q).collect.downs = 1) from And.intro h5 (And.intro HC.out.1 (Or.inl HC.out.2)))
              clear h5 HC
              go_wp2_with fail
              go_meet
              case rel => exact ⟨n, _, by go_num, by omega, HX.out⟩
            · have f1 : (q.a i).giveE [lb, hb] = 0 := f1
              replace f2 : ((q.setA i ((q.a i).give [lb, hb])).setSaid i (q.said i ++ [[lb, hb]])).Room := f2
              replace f3 : ∃ a', Two 128 W (j + 1) ((q.setA i ((q.a i).give [lb, hb])).setSaid i (q.said i ++ [[lb, hb]])).collect a' := f3
              rw [f1] at SN
              have hsl := (ha.len i).1
              have HC := Lib.hid (And.intro f2 f3)
              have NM := fun v => num_calls 0 v
              have SN : Calls Try.prog 11 #[.pointer (some ⟨b i, 0, none⟩), .slice (some ⟨wr.heap.size, 0, none⟩) 2 2] (wr.alloc (.cells #[.int .u8 (lb.toNat : Int), .int .u8 (hb.toNat : Int)] 5)) _ := SN
              have k0 : (wr.alloc (.cells #[.int .u8 (lb.toNat : Int), .int .u8 (hb.toNat : Int)] 5)).cell? ⟨P, yn, none⟩ = some (.pointer (some ⟨b i, 0, none⟩)) := k0
              have hrd := laid_rd wr [lb, hb]
              have hsz : wr.heap.size < (laid wr [lb, hb]).heap.size := by rw [laid_size]; exact Nat.lt_succ_self _
              have HB := Lib.hid (And.intro hrd hsz)
              clear h h' ha rA hW f1 f2 f3 HO bel kc' hrd hsz
              go_wp2_with fail
              refine SN.mono ?_
              rintro e w4 ⟨rfl, h4, K4, -⟩
              obtain ⟨F4, on4, hF4, -⟩ := K4
              have rd4 : Rd w4 (some ⟨wr.heap.size, 0, none⟩) [lb, hb] := HB.out.1.only on4 (fun k hk hF => hF4 k hF (.inr (by injection hk with hk; rw [← hk]; exact ⟨Nat.le_refl _, HB.out.2⟩)))
              have h4 := h4.less (G := fun _ => False) (fun _ h => h.elim)
              have hD := h4.drewN 1
              obtain ⟨A5, c5, A6, c6, v6, a1, a2, a3, a4, a5, a6⟩ := hD.appSaid i [lb, hb] (by show (q.said i).length ≤ _; omega)
              rw [HN.out] at a1 a3 a4 a5 a6
              have a1 : w4.cell? ⟨P, 6 + yn, none⟩ = some (.slice A5 (q.said i).length c5) := a1
              have a2 : ∀ ty, (Builtin.append_ #[33, 33] ty #[.slice A5 (q.said i).length c5, .slice (some ⟨w4.heap.size, 0, none⟩) 1 1]).run Try.prog (w4.alloc (.cells #[.string ⟨#[lb, hb]⟩] 9)).drew = .ok (.slice A6 ((q.said i).length + 1) c6) v6 := a2
              have a3 : v6.cell? ⟨P, 6 + yn, none⟩ = some (.slice A5 (q.said i).length c5) := a3
              have a4 : v6.frozen? ⟨P, 6 + yn, none⟩ = false := a4
              have q1 : (convert 39 9 (.slice (some ⟨wr.heap.size, 0, none⟩) 2 2)).run Try.prog w4.drew = .ok (.string ⟨#[lb, hb]⟩) w4.drew := run_conv w4.drew (some ⟨wr.heap.size, 0, none⟩) 2 [lb, hb] rd4
              have a7 : (w4.alloc (.cells #[.string ⟨#[lb, hb]⟩] 9)).cell? ⟨P, 6 + yn, none⟩ = some (.slice A5 (q.said i).length c5) := (World.cell?_alloc_some w4 _ _ (by rw [a1]; rfl)).trans a1
              have H5 := Lib.hid (show PrOne (fun _ => False) w (v6.setCell ⟨P, 6 + yn, none⟩ (.slice A6 ((q.said i).length + 1) c6)) P b ((q.setA i ((q.a i).give [lb, hb])).setSaid i (q.said i ++ [[lb, hb]])) from a5)
              clear SN k0 HB on4 hF4 rd4 h4 hD a5 a6
              generalize (q.said i).length = nh at *
              go_wp2_with fail
              refine (NM _).mono ?_
              rintro e v5 ⟨rfl, hv⟩
              obtain rfl := hv.symm
              clear NM
              go_wp2_with fail
              go_region_law (first
                | ((with_reducible refine step_append_run _ ?_ (.tmp 107) (.tmp 110) _ _ ?_ _ _ ?_ ?_ _ _ (a2 _) ?_); rfl; rfl; (focus (first | (simp [Act.eval]; done) | (simp [Act.eval, Act.put]; done))); (focus (first | (simp [Act.eval]; done) | (simp [Act.eval, Act.put]; done)))))
              all_goals
                have h5 := H5.out
                clear a1 a2 a3 a4 a7 q1 H5
                have HX := Lib.hid (show PrOne (fun _ => False) w _ P b ((q.setA i ((q.a i).give [lb, hb])).setSaid i (q.said i ++ [[lb, hb]])) ∧ ((q.setA i ((q.a i).give [lb, hb])).setSaid i (q.said i ++ [[lb, hb]])).Room ∧ ((∃ a', Two 128 W (j + 1) ((q.setA i ((q.a i).give [lb, hb])).setSaid i (q.said i ++ [[lb, hb]])).collect a') ∨ ((q.setA i ((q.a i).give [lb, hb])).setSaid i (q.said i ++ [[lb, hb]])).collect.downs = 1) from And.intro h5 (And.intro HC.out.1 (Or.inl HC.out.2)))
                clear h5 HC
                go_wp2_with fail
                go_meet
                case rel => exact ⟨n + 1, _, by go_num, by omega, HX.out⟩
        · have k0 : wr.cell? ⟨P, yn, none⟩ = some (.pointer (some ⟨b i, 0, none⟩)) := by have := h.ptr i; rw [HN.out] at this; exact this
          obtain ⟨a, ha⟩ := HO.out.2
          have FF := ha.pass h2 (by omega) (!i) (g := 1 + e15) (by omega) (by omega)
          rw [Bool.not_not] at FF
          obtain ⟨f1, f2, f3⟩ := FF
          replace f1 : (q.a i).Fits := f1
          replace f2 : (q.setA i ((q.a i).pass (1 + e15))).Room := f2
          replace f3 : (∃ a', Two 128 W (j + 1) (q.setA i ((q.a i).pass (1 + e15))).collect a') ∨ (q.setA i ((q.a i).pass (1 + e15))).collect.downs = 1 := f3
          have OP : Calls Try.prog 13 #[.pointer (some ⟨b i, 0, none⟩), .int .i64 (1 + e15)] wr.drew _ := (h.drewN 1).pass i f1 (1 + e15)
          have HC0 := Lib.hid (And.intro f2 f3)
          clear h ha f1 f2 f3 HO
          go_wp2_with fail
          refine wp_region_still_tail 13 (by kernel_rfl) (by kernel_rfl) ?_
          simp only [List.take_succ_cons, List.take_zero, List.drop_succ_cons, List.drop_zero]
          repeat still_step
          refine wpStill_nil ?_
          change wpList _ _ _ _ _ wr.drew
          go_wp2_with fail
          refine OP.mono ?_
          rintro e w5 ⟨rfl, h5, -, -⟩
          have HC := Lib.hid HC0.out
          clear OP k0 HC0
          have HX := Lib.hid (show PrOne (fun _ => False) w _ P b (q.setA i ((q.a i).pass (1 + e15))) ∧ (q.setA i ((q.a i).pass (1 + e15))).Room ∧ ((∃ a', Two 128 W (j + 1) (q.setA i ((q.a i).pass (1 + e15))).collect a') ∨ (q.setA i ((q.a i).pass (1 + e15))).collect.downs = 1) from And.intro h5 (And.intro HC.out.1 HC.out.2))
          clear h5 HC
          go_wp2_with fail
          go_meet
          case rel => exact ⟨n, _, by go_num, by omega, HX.out⟩
        · have k0 : wr.cell? ⟨P, yn, none⟩ = some (.pointer (some ⟨b i, 0, none⟩)) := by have := h.ptr i; rw [HN.out] at this; exact this
          obtain ⟨a, ha⟩ := HO.out.2
          have FF := ha.again h2 (by omega) (!i)
          rw [Bool.not_not] at FF
          obtain ⟨f1, f2, f3⟩ := FF
          replace f1 : (q.a i).os.length + (q.a i).lg.n ≤ 1000000 := f1
          replace f2 : (q.setA i (q.a i).again).Room := f2
          replace f3 : ∃ a', Two 128 W (j + 1) (q.setA i (q.a i).again).collect a' := f3
          have OP := h.again i f1
          have HC := Lib.hid (And.intro f2 f3)
          clear h ha f1 f2 f3 HO
          go_wp2_with fail
          refine OP.mono ?_
          rintro e w5 ⟨rfl, h5, -, -⟩
          clear OP k0
          have HX := Lib.hid (show PrOne (fun _ => False) w _ P b (q.setA i (q.a i).again) ∧ (q.setA i (q.a i).again).Room ∧ ((∃ a', Two 128 W (j + 1) (q.setA i (q.a i).again).collect a') ∨ (q.setA i (q.a i).again).collect.downs = 1) from And.intro h5 (And.intro HC.out.1 (Or.inl HC.out.2)))
          clear h5 HC
          go_wp2_with fail
          go_meet
          case rel => exact ⟨n, _, by go_num, by omega, HX.out⟩
        · obtain ⟨a, ha⟩ := HO.out.2
          obtain ⟨f1, a', f2⟩ := ha.loses (by omega) i
          have OP := carry_i h i true f1
          rw [HN.out] at OP
          obtain ⟨f3, f4⟩ := f2.roomP (by omega)
          have HC := Lib.hid (And.intro f3 (show ∃ a', Two 128 W (j + 1) (q.carry i true).collect a' from ⟨a', by rw [f4]; exact f2⟩))
          clear h ha f1 f2 f3 f4 HO
          go_wp2_with fail
          refine OP.mono ?_
          rintro e w5 ⟨rfl, h5, -⟩
          clear OP
          have HX := Lib.hid (show PrOne (fun _ => False) w _ P b (q.carry i true) ∧ (q.carry i true).Room ∧ ((∃ a', Two 128 W (j + 1) (q.carry i true).collect a') ∨ (q.carry i true).collect.downs = 1) from And.intro h5 (And.intro HC.out.1 (Or.inl HC.out.2)))
          clear h5 HC
          go_wp2_with fail
          go_meet
          case rel => exact ⟨n, _, by go_num, by omega, HX.out⟩
        · have n0 : ¬ cc = 0 := by omega
          have n1 : ¬ cc = 1 := by omega
          have n2 : ¬ cc = 2 := by omega
          have n3 : ¬ cc = 3 := by omega
          have n4 : ¬ cc = 4 := by omega
          clear hc
          obtain ⟨a, ha⟩ := HO.out.2
          obtain ⟨f1, a', f2⟩ := ha.comes h2 (by omega) i
          have OP := carry_i h i false f1
          rw [HN.out] at OP
          obtain ⟨f3, f4⟩ := f2.roomP (by omega)
          have HC := Lib.hid (And.intro f3 (show ∃ a', Two 128 W (j + 1) (q.carry i false).collect a' from ⟨a', by rw [f4]; exact f2⟩))
          clear h ha f1 f2 f3 f4 HO
          go_wp2_with fail
          refine OP.mono ?_
          rintro e w5 ⟨rfl, h5, -⟩
          clear OP
          have HX := Lib.hid (show PrOne (fun _ => False) w _ P b (q.carry i false) ∧ (q.carry i false).Room ∧ ((∃ a', Two 128 W (j + 1) (q.carry i false).collect a') ∨ (q.carry i false).collect.downs = 1) from And.intro h5 (And.intro HC.out.1 (Or.inl HC.out.2)))
          clear h5 HC
          go_wp2_with fail
          go_meet
          case rel => exact ⟨n, _, by go_num, by omega, HX.out⟩
      case rest =>
        obtain ⟨n', r, rfl, hn', HX⟩ := hcut
        have CC := collect_calls HX.out.1 HX.out.2.1
        have HD := Lib.hid HX.out.2.2
        clear HX HO h kc hcc and1 and7 and15 HN hyl y0 y1
        generalize r.collect = r at *
        clear q
        go_wp2_with fail
        refine CC.mono ?_
        rintro e w6 ⟨rfl, h6, -⟩
        have H6 := Lib.hid h6
        clear CC h6
        rcases HD.out with hd | hd
        · have HT := Lib.hid hd
          clear HD hd
          go_wp2_with fail
          go_loopg [16] 2 (fun kx s16 wr => ∃ (k : Nat), s16 = .int .i64 (k : Int) ∧ k ≤ 2 ∧ 2 - k ≤ kx ∧ Aside (PrOne (fun _ => False) w wr P b r))
          case atStart => exact ⟨0, rfl, by omega, by omega, H6.out⟩
          case round =>
            clear H6
            obtain ⟨k, rfl, hk, hkx, HP⟩ := hrel
            have hk3 : k = 0 ∨ k = 1 ∨ k = 2 := by omega
            rcases hk3 with rfl | rfl | rfl
            · obtain ⟨a, ha⟩ := HT.out
              obtain ⟨t1, t2, t3⟩ := ha.looks false
              have t1 : r.heard true = (r.said false).take (r.heard true).length := t1
              have t2 : (r.a false).ak ≤ (r.heard true).length := t2
              have hm := (ha.len false).1
              have hdn := ha.downs
              have h := HP.out
              have k0 : wr.cell? ⟨P, 0, none⟩ = some (.pointer (some ⟨b false, 0, none⟩)) := h.ptr false
              have CN := h.counts false
              rw [t3] at CN
              have u1 : ((r.a false).ak : Int) ≤ ((r.heard true).length : Int) := by omega
              have u2 : ¬ ((r.heard true).length : Int) < ((r.a false).ak : Int) := by omega
              have u3 : decide (((r.heard true).length : Int) < ((r.a false).ak : Int)) = false := decide_eq_false u2
              have u4 : ¬ (r.heard true).length < (r.a false).ak := by omega
              have u5 : decide ((r.heard true).length < (r.a false).ak) = false := decide_eq_false u4
              have HF := Lib.hid (And.intro h (And.intro t1 (And.intro hm hdn)))
              clear h ha t1 t2 t3 hm hdn HP
              go_wp2_with fail
              refine CN.mono ?_
              rintro e w7 ⟨rfl, nq, rfl⟩
              have h := HF.out.1.drewN nq
              obtain ⟨Ah, ch, Fh, c1, s1⟩ := h.rHeard true
              obtain ⟨As, cs, Fs, c2, s2⟩ := h.rSaid false
              have c1 : (wr.drewN nq).cell? ⟨P, 5, none⟩ = some (.slice Ah (r.heard true).length ch) := c1
              have c2 : (wr.drewN nq).cell? ⟨P, 6, none⟩ = some (.slice As (r.said false).length cs) := c2
              have c8 : (wr.drewN nq).cell? ⟨P, 8, none⟩ = some (.int .i64 0) := by
                have := h.cDowns
                rw [HF.out.2.2.2] at this
                exact this
              have PX := fun m => prefix_calls (w := (wr.drewN nq).drewN m) (F := Fh) (G := Fs) (A := Ah) (B := As) (c := ch) (d := cs) ⟨s1.1, s1.2⟩ ⟨s2.1, s2.2⟩ HF.out.2.1 (by have := HF.out.2.2.1; omega)
              have FP := Lib.hid h
              clear CN h HF s1 s2 k0
              generalize (r.heard true).length = hl at *
              generalize (r.said false).length = sl at *
              generalize (r.a false).ak = ak at *
              generalize (r.a false).sn = sn at *
              generalize wr.drewN nq = W7 at *
              have wr1 : IntKind.i64.wrap 1 = 1 := by decide
              have wr0 : IntKind.i64.wrap 0 = 0 := by decide
              go_wp2_with fail
              go_quiet (first | (go_at_call 18; exact Calls.quiet_of (PX _)))
              have FQ := Lib.hid (FP.out.drewN nq)
              clear PX FP c1 c2 c8
              go_wp2
              go_roundg (2 - 1)
              case measure => omega
              case rel => exact ⟨1, by go_num, by omega, Nat.le_refl _, FQ.out⟩
            · obtain ⟨a, ha⟩ := HT.out
              obtain ⟨t1, t2, t3⟩ := ha.looks true
              have t1 : r.heard false = (r.said true).take (r.heard false).length := t1
              have t2 : (r.a true).ak ≤ (r.heard false).length := t2
              have hm := (ha.len true).1
              have hdn := ha.downs
              have h := HP.out
              have k0 : wr.cell? ⟨P, 1, none⟩ = some (.pointer (some ⟨b true, 0, none⟩)) := h.ptr true
              have CN := h.counts true
              rw [t3] at CN
              have u1 : ((r.a true).ak : Int) ≤ ((r.heard false).length : Int) := by omega
              have u2 : ¬ ((r.heard false).length : Int) < ((r.a true).ak : Int) := by omega
              have u3 : decide (((r.heard false).length : Int) < ((r.a true).ak : Int)) = false := decide_eq_false u2
              have u4 : ¬ (r.heard false).length < (r.a true).ak := by omega
              have u5 : decide ((r.heard false).length < (r.a true).ak) = false := decide_eq_false u4
              have HF := Lib.hid (And.intro h (And.intro t1 (And.intro hm hdn)))
              clear h ha t1 t2 t3 hm hdn HP
              go_wp2_with fail
              refine CN.mono ?_
              rintro e w7 ⟨rfl, nq, rfl⟩
              have h := HF.out.1.drewN nq
              obtain ⟨Ah, ch, Fh, c1, s1⟩ := h.rHeard false
              obtain ⟨As, cs, Fs, c2, s2⟩ := h.rSaid true
              have c1 : (wr.drewN nq).cell? ⟨P, 4, none⟩ = some (.slice Ah (r.heard false).length ch) := c1
              have c2 : (wr.drewN nq).cell? ⟨P, 7, none⟩ = some (.slice As (r.said true).length cs) := c2
              have c8 : (wr.drewN nq).cell? ⟨P, 8, none⟩ = some (.int .i64 0) := by
                have := h.cDowns
                rw [HF.out.2.2.2] at this
                exact this
              have PX := fun m => prefix_calls (w := (wr.drewN nq).drewN m) (F := Fh) (G := Fs) (A := Ah) (B := As) (c := ch) (d := cs) ⟨s1.1, s1.2⟩ ⟨s2.1, s2.2⟩ HF.out.2.1 (by have := HF.out.2.2.1; omega)
              have FP := Lib.hid h
              clear CN h HF s1 s2 k0
              generalize (r.heard false).length = hl at *
              generalize (r.said true).length = sl at *
              generalize (r.a true).ak = ak at *
              generalize (r.a true).sn = sn at *
              generalize wr.drewN nq = W7 at *
              have wr1 : IntKind.i64.wrap 1 = 1 := by decide
              have wr0 : IntKind.i64.wrap 0 = 0 := by decide
              go_wp2_with fail
              go_quiet (first | (go_at_call 18; exact Calls.quiet_of (PX _)))
              have FQ := Lib.hid (FP.out.drewN nq)
              clear PX FP c1 c2 c8
              go_wp2
              go_roundg (2 - 2)
              case measure => omega
              case rel => exact ⟨2, by go_num, by omega, Nat.le_refl _, FQ.out⟩
            · have HS := Lib.hid (And.intro HP.out HT.out)
              clear HP HT
              go_wp2
              go_roundg (L - (j + 1))
              case measure => omega
              case rel => exact ⟨j + 1, n', r, by go_num, by go_num, by omega, Nat.le_refl _, by omega, HS.out⟩
        · have h := H6.out
          have k0 : w6.cell? ⟨P, 0, none⟩ = some (.pointer (some ⟨b false, 0, none⟩)) := h.ptr false
          have c8 : w6.cell? ⟨P, 8, none⟩ = some (.int .i64 1) := by
            have := h.cDowns
            rw [hd] at this
            exact this
          have CN := h.counts false
          clear h HD hd
          go_wp2_with fail
          go_loopg [16] 2 (fun kx s16 wr => s16 = .int .i64 0 ∧ wr = w6)
          case atStart => exact ⟨rfl, rfl⟩
          case round =>
            obtain ⟨rfl, rfl⟩ := hrel
            go_wp2_with fail
            refine CN.mono ?_
            rintro e w7 ⟨rfl, nq, rfl⟩
            have FI := Lib.hid (H6.out.drewN nq).bel
            have c8 : (wr.drewN nq).cell? ⟨P, 8, none⟩ = some (.int .i64 1) := c8
            clear CN H6
            go_wp2
            go_ret
            exact ⟨rfl, FI.out⟩
    · have hjE : j = L := by omega
      subst hjE
      have g0 : ¬ (j : Int) < (j : Int) := by omega
      have FI := Lib.hid HO.out.1.bel
      clear HO
      go_wp2
      go_ret
      exact ⟨rfl, FI.out⟩
end
end Go.Proofs.Ytgkdabllaankcaa

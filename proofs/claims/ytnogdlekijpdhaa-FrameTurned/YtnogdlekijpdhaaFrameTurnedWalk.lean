/- The law FrameTurned, walked. Condition: the slices read as their octets. -/
import Derived.Test.YtnogdlekijpdhaaFramePlaysWalk
import Derived.Test.YtnogdlekijpdhaaFrameTurnedFar
import Derived.Test.YtnogdlekijpdhaaByteBit
import Derived.Test.YtnogdlekijpdhaaBytesSet
import Derived.Test.YtnogdlekijpdhaaStepApp
import Derived.IntWalk
namespace Go.Proofs.Ytnogdlekijpdhaa
open Go.RowKit
open Fcs Oct Fra
set_option linter.unusedVariables false

/-- behind k of the octets -/
def TRel (W : World) (p : Nat) (wide : Bool) (l : List UInt8) (ss : List (List UInt8)) (v i : Value) (wr : World) : Prop :=
  ∃ (k : Nat) (pre : List (List UInt8)) (s : St) (F : Nat → Prop), k ≤ l.length ∧ i = .int .i64 k ∧ v = .int .i64 (pre.length : Int) ∧ RR wr F p 300 wide s ∧ (∀ j, F j → W.heap.size ≤ j) ∧ Below W.heap.size W wr ∧ s.acc.length ≤ 300 + sumN wide ∧ pre ++ told (300 + sumN wide) wide s (l.drop k) = ss

set_option maxHeartbeats 2000000 in
theorem FrameTurned_near (A : Option Addr) (c : Nat) (l : List UInt8) (B : Option Addr) (d : Nat) (y : List UInt8) (wide : Bool) (q z : Int) (w : World) (hr : Rd w A l) (hry : Rd w B y) (hl0 : ¬ l.length < 1) (hl : l.length ≤ 100) (hy0 : ¬ y.length < 1) (hy : y.length ≤ 100) (hq : 0 ≤ q) (hqm : q ≤ 9223372036854775807) :
    Calls Try.prog 9 #[.slice A l.length c, .slice B y.length d, .bool wide, .int .i64 q, .int .i64 z] w fun e w' => e = .returned (.bool true) ∧ Below w.heap.size w w' := by
  have hfl := frame_len wide l (by omega)
  have hfy := frame_len wide y (by omega)
  have hsn : sumN wide ≤ 4 := by cases wide <;> decide
  have TL := Lib.hid (fun f => told_last (L := limit 300 wide) (wide := wide) .out f y (by omega) (by unfold limit; have : most 300 = 300 := rfl; omega))
  have pc := Lib.hid (fun (A : Option Addr) (c : Nat) (w : World) (hr : Rd w A l) => refFrame_calls wide A c l w hr (by omega))
  have py := Lib.hid (fun (A : Option Addr) (c : Nat) (w : World) (hr : Rd w A y) => refFrame_calls wide A c y w hr (by omega))
  generalize frame wide l = f at *
  generalize frame wide y = g at *
  go_enter Try.func9, Try.ntmps9
  go_wp2_with fail
  refine (alive_calls w).mono ?_
  rintro e W ⟨rfl, hb⟩
  have p1 := pc.out A c W (hr.below hb)
  clear pc
  go_wp2_with fail
  refine p1.mono ?_
  rintro e w1 ⟨A1, c1, rfl, own1, bel1⟩
  clear p1
  obtain ⟨j, hj⟩ : ∃ j : Nat, q % (f.length : Int) = (j : Int) := ⟨(q % (f.length : Int)).toNat, by have := Int.emod_nonneg q (show (f.length : Int) ≠ 0 by omega); omega⟩
  have hjl : j < f.length := by have := Int.emod_lt_of_pos q (show (0 : Int) < (f.length : Int) by omega); omega
  obtain ⟨t, ht⟩ : ∃ t : Nat, z % 8 = (t : Int) := ⟨(z % 8).toNat, by omega⟩
  have ht8 : t < 8 := by omega
  obtain ⟨h, rfl, hg, hcell, hfrz, hset⟩ := own1.place hjl
  have hh : h < w1.heap.size := World.block_lt_of_cell? w1 _ hcell
  obtain ⟨x, hx⟩ : ∃ x, f.getD j 0 = x := ⟨_, rfl⟩
  rw [hx] at hcell
  obtain ⟨x', hx'⟩ : ∃ x', x ^^^ UInt8.ofBitVec (1#8 <<< t) = x' := ⟨_, rfl⟩
  have hfv := bit_flip x t ht8
  rw [hx'] at hfv
  have own2 := hset x'
  have b1 := hb.trans (bel1.mono hb.size)
  have bel2 := (bel1.drew).setCell (p := ⟨h, j, none⟩) hg (bv x')
  have OW2 := Lib.hid (show Own (w1.drew.setCell ⟨h, j, none⟩ (bv x')) W.heap.size (some ⟨h, 0, none⟩) c1 (f.set j x') from own2)
  unfold bv at hcell OW2 bel2
  have q1 : q.tmod (f.length : Int) = (j : Int) := by rw [Int.tmod_eq_emod_of_nonneg hq]; exact hj
  have q2 : bits .and .i64 z 7 = (t : Int) := by rw [i64_and7]; exact ht
  have q3 : IntKind.u64.wrap (t : Int) = (t : Int) := by rw [IntKind.wrap_u64]; omega
  have q4 : (0 : Int) ≤ (j : Int) := by omega
  have q5 : (j : Int) < (f.length : Int) := by omega
  have q6 : (0 : Int) ≤ (t : Int) := by omega
  have q7 : ¬ (f.length : Int) = 0 := by omega
  have hl2 : (f.set j x').length ≤ 2010 := by rw [List.length_set]; exact hfl.1
  have hfe := Lib.hid (show (f.set j x').length = f.length by rw [List.length_set])
  obtain ⟨N, hNe⟩ : ∃ N, f.length = N := ⟨_, rfl⟩
  rw [hNe] at q1 q5 q7 hfe hfl
  rw [hNe]
  have q8 : ¬ N = 0 := by omega
  have q9 : ((N : Int) == 0) = false := beq_eq_false_iff_ne.mpr q7
  clear own1 own2 hset hj ht hx hx' bel1 hNe hjl
  go_wp2
  refine wp_region_still_tail 18 (by kernel_rfl) (by kernel_rfl) ?_
  simp only [List.take_succ_cons, List.take_zero, List.drop_succ_cons, List.drop_zero]
  repeat still_step
  refine wpStill_nil ?_
  obtain ⟨f', hf'⟩ : ∃ f', f.set j x' = f' := ⟨_, rfl⟩
  rw [hf'] at OW2 hl2 hfe
  change wpList _ _ _ _ _ w1.drew
  have hcell1 : w1.drew.cell? ⟨h, j, none⟩ = some (.int .u8 (x.toNat : Int)) := hcell
  have hfrz1 : w1.drew.frozen? ⟨h, j, none⟩ = false := hfrz
  have hh1 : h < w1.drew.heap.size := hh
  clear hcell hfrz hh b1
  generalize w1.drew = v1 at *
  have bU := hb.trans (bel2.mono hb.size)
  obtain ⟨A3, c3, w3, run3, own3, bel3⟩ := app_new (v1.setCell ⟨h, j, none⟩ (.int .u8 (x'.toNat : Int))) W.heap.size (some ⟨h, 0, none⟩) c1 f' [126] OW2.out bel2.size (by simp; omega)
  rw [hfe.out, show (v1.setCell ⟨h, j, none⟩ (.int .u8 (x'.toNat : Int))).heap.size = v1.heap.size by simp [World.setCell]] at run3
  have bel23 := bel2.trans bel3
  have b3 := hb.trans (bel23.mono hb.size)
  have p3 := py.out B d w3 (hry.below b3)
  have O3 := Lib.hid own3
  have hl3 : (f' ++ [126]).length ≤ 2011 := by simp; omega
  have hlast := Lib.hid (TL.out f')
  have heq := Lib.hid (show f' ++ [126] ++ g = f' ++ 126 :: g by simp)
  clear hf' TL py own3 OW2 bel3 bel2 bU
  generalize f' ++ [126] = f3 at *
  go_wp2_with (at_builtin; refine Lib.wpList_append_run _ rfl (.tmp 68) (.tmp 69) _ _ rfl _ _ rfl rfl _ _ (run3 _) ?_)
  refine p3.mono ?_
  rintro e w4 ⟨A4, c4, rfl, own4, bel4⟩
  clear p3 run3 hcell1 hfrz1 hh1 q1 q2 q3 q4 q5 q6 q7 q8 q9 hfv
  have bel24 := bel23.trans (bel4.mono bel23.size)
  have b4 := hb.trans (bel24.mono hb.size)
  obtain ⟨A5, c5, w5, run5, own5, bel5⟩ := run_app w4 W.heap.size A3 c3 f3 (O3.out.below bel4) A4 c4 g own4.rd (by omega) bel24.size
  have bel25 := bel24.trans bel5
  have b5 := hb.trans (bel25.mono hb.size)
  have O5 := Lib.hid own5
  have hd := heard_calls 300 wide A5 c5 _ w5 own5.rd (by decide) (by decide) (by simp; omega)
  obtain ⟨pre, hpre⟩ : ∃ pre, pre = told (limit 300 wide) wide .out f3 := ⟨_, rfl⟩
  have hss := Lib.hid (show told (limit 300 wide) wide .out (f3 ++ g) = pre ++ [y] by rw [heq.out, hlast.out, hpre])
  rw [hss.out] at hd
  have hlf : (f3 ++ g).length ≤ 5000 := by simp; omega
  clear own4 own5 O3 hpre hlast heq
  generalize f3 ++ g = lf at *
  go_wp2_with (at_builtin; refine Lib.wpList_append_run _ rfl _ _ _ _ rfl _ _ rfl rfl _ _ (run5 _) ?_)
  refine hd.mono ?_
  rintro e w6 ⟨A6, c6, rfl, own6, bel6⟩
  clear run5 hd
  have b6 := b5.trans (bel6.mono b5.size)
  have O5' := Lib.hid (O5.out.below bel6)
  have O6 := Lib.hid own6
  have nr := newReader_calls 300 wide w6
  have rr0 := RR.new w6 300 wide
  have bn := (Below.refl w6.heap.size w6).alloc (Nat.le_refl _) (.cells (rcells 300 wide false none 0 0 0 false false) 48)
  have RR0 := Lib.hid rr0
  have hm3 : most 300 = 300 := rfl
  rw [hm3] at nr
  clear rr0 own6 hm3 O5 bel6
  obtain ⟨ss, hsse⟩ : ∃ ss, pre ++ [y] = ss := ⟨_, rfl⟩
  have HSL := Lib.hid (show ss.length = pre.length + 1 by rw [← hsse]; simp)
  have hsy := Lib.hid (show ss.getD pre.length [] = y by rw [← hsse]; simp)
  rw [hsse] at O6 hss
  rw [hsse]
  clear hsse
  go_wp2_with fail
  refine nr.mono ?_
  rintro e w7 ⟨rfl, rfl⟩
  clear nr
  have rr := RR0.out
  clear RR0
  generalize w6.alloc (.cells (rcells 300 wide false none 0 0 0 false false) 48) = w7 at *
  have hst := Lib.hid (show TRel w6 w6.heap.size wide lf ss (.int .i64 0) (.int .i64 0) w7 from ⟨0, [], .out, _, Nat.zero_le _, rfl, rfl, rr, fun j hj => by rw [hj]; exact Nat.le_refl _, bn, Nat.zero_le _, hss.out⟩)
  have hslm : ss.length ≤ 9223372036854775807 := by
    rcases O6.out.2 with ⟨hv, h0⟩ | ⟨g', cap, cur, hv, _, _, h1, h2, _⟩
    · omega
    · unfold maxLen at h2; omega
  clear rr hss
  go_wp2
  go_loopw [15, 16] (TRel w6 w6.heap.size wide lf ss) (fun _ i _ => lf.length - (intOf i).toNat)
  case atStart => exact hst.out
  case round =>
    clear hst bn
    obtain ⟨k, pr, s, F, hk, rfl, rfl, rr, hF, bel, hacc, ht⟩ := hrel
    have bF := b6.trans (bel.mono b6.size)
    by_cases hlt : k < lf.length
    · obtain ⟨b, off, rfl, hbb, hc⟩ := (O5'.out.rd.below bel).at_ hlt
      have hgd : lf.getD k 0 = lf[k] := by rw [List.getD_eq_getElem?_getD, List.getElem?_eq_getElem hlt]; rfl
      have ht' := Lib.hid (told_at hlt ht)
      clear ht
      rw [hgd] at hc
      clear hgd
      generalize lf[k] = u at hc ht'
      have PC := rpush_calls F w6.heap.size 300 wide s u wr rr (by decide) (by omega)
      have hacc' := acc_le (L := 300 + sumN wide) s u hacc
      unfold bv at hc PC
      unfold RPushed at PC
      clear rr
      by_cases hgo : (tells wide s u).1 = 1
      · have hgood : good wide s u = [(tells wide s u).2] := by unfold good; rw [if_pos hgo]
        rw [hgood] at ht'
        rw [hgo] at PC
        generalize (tells wide s u).2 = v at *
        have hpl : pr.length < ss.length := by rw [← ht'.out]; simp
        have hpv : ss.getD pr.length [] = v := by rw [← ht'.out]; simp
        obtain ⟨gg, rfl, hg1, hg2, hgc⟩ := O6.out.at_ hpl
        rw [hpv] at hgc
        unfold strV at hgc
        have hpl2 : (pr ++ [v]).length = pr.length + 1 := by simp
        have HE0 := Lib.hid (show ∀ w8, RR w8 (more F wr w8) w6.heap.size 300 wide (next (300 + sumN wide) s u) → Only F wr w8 → TRel w6 w6.heap.size wide lf ss (.int .i64 ((pr.length : Int) + 1)) (.int .i64 ((k : Int) + 1)) (w8.drew) from
          fun w8 rr1 on1 => ⟨k + 1, pr ++ [v], _, _, by omega, by rw [Int.natCast_add]; rfl, by rw [hpl2, Int.natCast_add]; rfl, rr1, more_ge hF bel.size, (bel.trans (on1.below hF bel.size)).drew, hacc', ht'.out⟩)
        have PL := Lib.hid hpl
        have d0 : decide (ss.length ≤ pr.length) = false := decide_eq_false (by omega)
        have d1 : decide ((ss.length : Int) ≤ (pr.length : Int)) = false := decide_eq_false (by omega)
        have i0 : (pr.length : Int) < (ss.length : Int) := by omega
        have i1 : ¬ (ss.length : Int) ≤ (pr.length : Int) := by omega
        have i2 : (0 : Int) ≤ (pr.length : Int) := by omega
        have i3 : (pr.length : Int) + 1 ≤ 9223372036854775807 := by omega
        clear hgood hgo hpl hpv hpl2 ht'
        go_wp2_with fail
        refine PC.mono ?_
        rintro e w8 ⟨B8, c8, rfl, own8, rr8, on8⟩
        clear PC
        have HE := Lib.hid (HE0.out w8 rr8 on8)
        have bel8 := bel.trans (on8.below hF bel.size)
        have HK := Lib.hid (show ∀ w', Below w8.heap.size w8 w' → (w'.cell? ⟨gg, pr.length, none⟩ = some (.string ⟨v.toArray⟩) ∧ (convert 22 9 (.slice B8 v.length c8)).run Try.prog w' = .ok (.string ⟨v.toArray⟩) w') from
          fun w' bl => ⟨(bl.cell (Nat.lt_of_lt_of_le hg2 bel8.size)).trans ((bel8.cell hg2).trans hgc), run_conv w' B8 c8 v (own8.rd.below bl)⟩)
        clear own8 rr8 on8 HE0
        generalize pr.length = n at *
        go_wp2
        go_region_held (fun w' => w'.cell? ⟨gg, n, none⟩ = some (.string ⟨v.toArray⟩) ∧ (convert 22 9 (.slice B8 v.length c8)).run Try.prog w' = .ok (.string ⟨v.toArray⟩) w') (first | exact HK.out _ (Below.refl _ _).drew | exact HK.out _ (Below.refl _ _)) (fail)
        go_wp2
        go_roundw
        case rel => exact HE.out
        case measure => simp [intOf]; omega
      · have hgood : good wide s u = [] := by unfold good; rw [if_neg hgo]
        rw [hgood] at ht'
        have hgb : ((tells wide s u).1 == 1) = false := beq_eq_false_iff_ne.mpr hgo
        generalize (tells wide s u).2 = v at *
        generalize (tells wide s u).1 = vz at *
        have HE0 := Lib.hid (show ∀ w8, RR w8 (more F wr w8) w6.heap.size 300 wide (next (300 + sumN wide) s u) → Only F wr w8 → TRel w6 w6.heap.size wide lf ss (.int .i64 (pr.length : Int)) (.int .i64 ((k : Int) + 1)) w8 from
          fun w8 rr1 on1 => ⟨k + 1, pr, _, _, by omega, by rw [Int.natCast_add]; rfl, rfl, rr1, more_ge hF bel.size, bel.trans (on1.below hF bel.size), hacc', by have := ht'.out; rwa [List.append_nil] at this⟩)
        clear hgood hgo ht'
        go_wp2_with fail
        refine PC.mono ?_
        rintro e w8 ⟨B8, c8, rfl, own8, rr8, on8⟩
        clear PC
        have HE := Lib.hid (HE0.out w8 rr8 on8)
        clear own8 rr8 on8 HE0
        go_wp2
        go_roundw
        case rel => exact HE.out
        case measure => simp [intOf]; omega
    · have he := told_end (by omega) ht
      subst he
      have hsl := HSL.out
      clear HSL
      obtain ⟨gg, rfl, hg1, hg2, hgc⟩ := O6.out.at_ (j := pre.length) (by omega)
      rw [hsy.out] at hgc
      unfold strV at hgc
      have HK := Lib.hid (show ∀ w', Below wr.heap.size wr w' → (w'.cell? ⟨gg, pre.length, none⟩ = some (.string ⟨y.toArray⟩) ∧ (convert 22 9 (.slice B y.length d)).run Try.prog w' = .ok (.string ⟨y.toArray⟩) w') from
        fun w' bl => ⟨(bl.cell (Nat.lt_of_lt_of_le hg2 bel.size)).trans ((bel.cell hg2).trans hgc), run_conv w' B d y ((hry.below bF).below bl)⟩)
      rw [hsl] at hslm ⊢
      generalize pre.length = n at *
      have i1 : (1 : Int) ≤ (n : Int) + 1 := by omega
      have i2 : IntKind.i64.wrap ((n : Int) + 1 - 1) = (n : Int) := by rw [IntKind.wrap_i64]; omega
      have i3 : IntKind.i64.wrap (n : Int) = (n : Int) := by rw [IntKind.wrap_i64]; omega
      have i4 : (0 : Int) ≤ (n : Int) := by omega
      have i5 : (n : Int) < (n : Int) + 1 := by omega
      clear rr ht hsl hsy hgc O6 O5'
      go_wp2
      go_region_held (fun w' => w'.cell? ⟨gg, n, none⟩ = some (.string ⟨y.toArray⟩) ∧ (convert 22 9 (.slice B y.length d)).run Try.prog w' = .ok (.string ⟨y.toArray⟩) w') (first | exact HK.out _ (Below.refl _ _).drew | exact HK.out _ (Below.refl _ _)) (fail)
      go_wp2
      go_ret
      exact ⟨rfl, bF.drew⟩
theorem FrameTurned_walk (a0 : Option Addr) (len0 cap0 : Nat) (z0 : List Int) (a1 : Option Addr) (len1 cap1 : Nat) (z1 : List Int) (a2 : Bool) (a3 a4 : Int) (w : World)
    (h0 : (a0 = none ∧ len0 = 0 ∧ cap0 = 0 ∧ z0 = []) ∨ ∃ x, a0 = some x ∧ len0 ≤ cap0 ∧ cap0 ≤ maxLen ∧ z0.length = cap0 ∧ (∀ i, i < z0.length → w.cell? (x.add i) = some (.int .u8 (z0.getD i 0))) ∧ ∀ n ∈ z0, (Lit.int .u8 n).wf = true)
    (h1 : (a1 = none ∧ len1 = 0 ∧ cap1 = 0 ∧ z1 = []) ∨ ∃ x, a1 = some x ∧ len1 ≤ cap1 ∧ cap1 ≤ maxLen ∧ z1.length = cap1 ∧ (∀ i, i < z1.length → w.cell? (x.add i) = some (.int .u8 (z1.getD i 0))) ∧ ∀ n ∈ z1, (Lit.int .u8 n).wf = true) (w3 : (Lit.int .i64 a3).wf = true) (w4 : (Lit.int .i64 a4).wf = true) :
    Calls Try.prog 9 #[.slice a0 len0 cap0, .slice a1 len1 cap1, .bool a2, .int .i64 a3, .int .i64 a4] w fun e w' => e = .returned (.bool true) ∧ Below w.heap.size w w' := by
  obtain ⟨l0, rfl, hc0, hm0, hr0⟩ := Rd.of_row h0
  obtain ⟨l1, rfl, hc1, hm1, hr1⟩ := Rd.of_row h1
  have hb := bounds_i64 w3
  unfold maxLen at hm0 hm1
  by_cases h : ¬ l0.length < 1 ∧ l0.length ≤ 100 ∧ ¬ l1.length < 1 ∧ l1.length ≤ 100 ∧ 0 ≤ a3
  · exact FrameTurned_near a0 cap0 l0 a1 cap1 l1 a2 a3 a4 w hr0 hr1 h.1 h.2.1 h.2.2.1 h.2.2.2.1 h.2.2.2.2 (by omega)
  · exact FrameTurned_far a0 l0.length cap0 a1 l1.length cap1 a2 a3 a4 w (by omega) (by omega) (by omega)
end Go.Proofs.Ytnogdlekijpdhaa

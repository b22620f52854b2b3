/- The law ControlBytes, walked. Condition: the slice reads as its bytes. -/
import Derived.Test.YthakcaofihacdaaCtlAlive
import Derived.Test.YthakcaofihacdaaCtlRefBytes3
import Derived.Test.YthakcaofihacdaaCtlRead
import Derived.Test.YthakcaofihacdaaCtlEq
import Derived.Test.YthakcaofihacdaaCtlBack
import Derived.Deep.RegionHeldLaw
namespace Go.Proofs.Ythakcaofihacdaa
open Go.RowKit
set_option linter.unusedVariables false

theorem one_box (w : World) (k ns nr : Int) (p : Bool) (v : World) (hv : Below (boxed w k ns nr p).heap.size (boxed w k ns nr p) v) :
    v.cell? ⟨w.heap.size, 0, none⟩ = some (.int .i64 k) ∧ v.cell? ⟨w.heap.size, 1, none⟩ = some (.int .i64 ns) ∧ v.cell? ⟨w.heap.size, 2, none⟩ = some (.int .i64 nr) ∧ v.cell? ⟨w.heap.size, 3, none⟩ = some (.bool p) := by
  have hh : (boxed w k ns nr p).heap[w.heap.size]? = some (.cells #[.int .i64 k, .int .i64 ns, .int .i64 nr, .bool p] 23 (0, 0)) := heap_alloc_new w _
  refine ⟨?_, ?_, ?_, ?_⟩ <;> rw [hv.cell (by rw [boxed_size]; exact Nat.lt_succ_self _), cell_of_row _ _ _ _ _ (0, 0) hh] <;> rfl
theorem ControlBytes_far (k ns nr : Int) (p : Bool) (m : Int) (A : Option Addr) (n c : Nat) (w : World) (hl : 50 < n) (hm : n ≤ 9223372036854775807) :
    Calls Try.prog 3 #[.agg #[.int .i64 k, .int .i64 ns, .int .i64 nr, .bool p], .int .i64 m, .slice A n c] w fun e w' => e = .returned (.bool true) ∧ Below w.heap.size w w' := by
  have b0 := boxed_below w k ns nr p
  have AC := alive_calls (boxed w k ns nr p)
  have F : ∀ v, Below (boxed w k ns nr p).heap.size (boxed w k ns nr p) v → Below w.heap.size w v := fun v hv => b0.trans (hv.mono b0.size)
  have HF := Lib.hid F
  unfold boxed at AC HF
  clear F b0
  go_enter Try.func3, Try.ntmps3
  go_wp2_with fail
  refine AC.mono ?_
  rintro e w' ⟨rfl, hb⟩
  have FB := HF.out _ hb
  clear hb AC
  go_wp2
  go_ret
  exact ⟨rfl, FB⟩
theorem below_box (w : World) (k ns nr : Int) (p : Bool) : Below w.heap.size w (boxed w.drew k ns nr p) := (Below.refl w.heap.size w).drew.alloc (Nat.le_refl _) _

set_option maxHeartbeats 1000000 in
theorem ControlBytes_near (k ns nr : Int) (p : Bool) (m : Int) (A : Option Addr) (c : Nat) (l : List UInt8) (w : World) (hr : Rd w A l) (hl : l.length ≤ 50) :
    Calls Try.prog 3 #[.agg #[.int .i64 k, .int .i64 ns, .int .i64 nr, .bool p], .int .i64 m, .slice A l.length c] w fun e w' => e = .returned (.bool true) ∧ Below w.heap.size w w' := by
  have HR := Lib.hid hr
  have BX := Lib.hid (one_box w k ns nr p)
  have HB := Lib.hid (boxed_below w k ns nr p)
  have AC := alive_calls (boxed w k ns nr p)
  obtain ⟨V, hV⟩ : ∃ V, w.alloc (.cells #[.int .i64 k, .int .i64 ns, .int .i64 nr, .bool p] 23) = V := ⟨_, rfl⟩
  unfold boxed at AC BX HB
  rw [hV] at AC
  rw [hV] at BX HB
  clear hr
  obtain ⟨R, hR⟩ : ∃ R, right k ns nr m = R := ⟨_, rfl⟩
  obtain ⟨E, hE⟩ : ∃ E, enc k ns nr p m = E := ⟨_, rfl⟩
  have HQ := Lib.hid hR
  have HE := Lib.hid hE
  have BC := fun v => bytes_calls k ns nr p m v
  have R1 := fun v => rightR_calls k ns nr p m v
  have R2 := fun v => right_calls k ns nr p m v
  have R3 := fun v => refBytes_calls k ns nr p m v
  rw [hE] at BC R3
  rw [hR] at R1 R2
  have e4 : E.length ≤ 4 := by rw [← hE]; exact enc_len k ns nr p m
  clear hE hR
  go_enter Try.func3, Try.ntmps3
  go_wp2_with fail
  refine AC.mono ?_
  rintro e W ⟨rfl, hb⟩
  clear hV AC
  obtain ⟨x0, x1, x2, x3⟩ := BX.out W hb
  have HBW := Lib.hid hb
  clear hb
  go_wp2_with fail
  refine (BC _).mono ?_
  rintro e w1 ⟨A8, c8, rfl, rd1, bel1⟩
  clear x0 x1 x2 x3
  have b1 := HBW.out.trans (bel1.mono HBW.out.size)
  have RD1 := Lib.hid rd1
  have HB1 := Lib.hid b1
  obtain ⟨x0, x1, x2, x3⟩ := BX.out w1 b1
  clear rd1 bel1 b1
  go_wp2_with fail
  refine (R1 _).mono ?_
  rintro e w2 ⟨rfl, hw2⟩
  have b2 := boxed_below w1 k ns nr p
  rw [hw2] at b2
  have B2 := Lib.hid (HB1.out.trans (b2.mono HB1.out.size))
  have RD2 := Lib.hid (RD1.out.below b2)
  clear hw2 b2 x0 x1 x2 x3
  have R2' := R2 w2.drew
  have R3' := R3 (boxed w2.drew k ns nr p)
  have e3 := below_box w2 k ns nr p
  have HK := Lib.hid (show ∀ v, Below w2.heap.size w2 v → (v.cell? ⟨w.heap.size, 0, none⟩ = some (.int .i64 k) ∧ v.cell? ⟨w.heap.size, 1, none⟩ = some (.int .i64 ns) ∧ v.cell? ⟨w.heap.size, 2, none⟩ = some (.int .i64 nr) ∧ v.cell? ⟨w.heap.size, 3, none⟩ = some (.bool p)) ∧ (convert 24 9 (.slice A8 E.length c8)).run Try.prog v = .ok (.string ⟨E.toArray⟩) v from fun v hv =>
    ⟨BX.out v (B2.out.trans (hv.mono B2.out.size)), run_conv v A8 c8 E (RD2.out.below hv)⟩)
  clear BC R1 R2 R3
  have D0 := Lib.hid (show Below w2.heap.size w2 w2.drew from (Below.refl w2.heap.size w2).drew)
  obtain ⟨y0, y1, y2, y3⟩ := (HK.out w2 (Below.refl _ _)).1
  cases R
  · have hz0 : ((E.length : Int) == 0) = true := by rw [← HE.out]; unfold enc; rw [HQ.out]; rfl
    have FB := Lib.hid (show ∀ v, Below w2.heap.size w2 v → Below w.heap.size w v from fun v hv => HB.out.trans ((B2.out.trans (hv.mono B2.out.size)).mono HB.out.size))
    go_wp2_with fail
    clear y0 y1 y2 y3
    go_region_held (fun v => (v.cell? ⟨w.heap.size, 0, none⟩ = some (.int .i64 k) ∧ v.cell? ⟨w.heap.size, 1, none⟩ = some (.int .i64 ns) ∧ v.cell? ⟨w.heap.size, 2, none⟩ = some (.int .i64 nr) ∧ v.cell? ⟨w.heap.size, 3, none⟩ = some (.bool p)) ∧ (convert 24 9 (.slice A8 E.length c8)).run Try.prog v = .ok (.string ⟨E.toArray⟩) v) (first | exact HK.out _ D0.out | exact HK.out _ (by assumption))
      (first | (go_at_call 11; with_reducible refine R2'.mono ?_; rintro e w' ⟨rfl, rfl⟩) | (go_at_call 12; (with_reducible refine R3'.mono ?_); rintro e w4 ⟨A4, c4, rfl, rd4, bel4⟩; have q4 := run_conv w4 A4 c4 E rd4; unfold strV at q4; have b4 : Below w2.heap.size w2 w4 := e3.trans (bel4.mono e3.size)))
    have FB4 := FB.out _ b4
    go_wp2
    go_ret
    exact ⟨rfl, FB4⟩
  · have FB := Lib.hid (show ∀ v, Below w2.heap.size w2 v → Below w.heap.size w v from fun v hv => HB.out.trans ((B2.out.trans (hv.mono B2.out.size)).mono HB.out.size))
    go_wp2_with fail
    clear y0 y1 y2 y3
    go_region_held (fun v => (v.cell? ⟨w.heap.size, 0, none⟩ = some (.int .i64 k) ∧ v.cell? ⟨w.heap.size, 1, none⟩ = some (.int .i64 ns) ∧ v.cell? ⟨w.heap.size, 2, none⟩ = some (.int .i64 nr) ∧ v.cell? ⟨w.heap.size, 3, none⟩ = some (.bool p)) ∧ (convert 24 9 (.slice A8 E.length c8)).run Try.prog v = .ok (.string ⟨E.toArray⟩) v) (first | exact HK.out _ D0.out | exact HK.out _ (by assumption))
      (first | (go_at_call 11; with_reducible refine R2'.mono ?_; rintro e w' ⟨rfl, rfl⟩) | (go_at_call 12; (with_reducible refine R3'.mono ?_); rintro e w4 ⟨A4, c4, rfl, rd4, bel4⟩; have q4 := run_conv w4 A4 c4 E rd4; unfold strV at q4; have b4 : Below w2.heap.size w2 w4 := e3.trans (bel4.mono e3.size)))
    have F4 := FB.out _ b4
    obtain ⟨A5, c5, w5, run1, own5, bel5⟩ := run_app w4 w4.heap.size none 0 [] (Own.nil _ _) A8 c8 E (RD2.out.below b4) (by simp; omega) (Nat.le_refl _)
    rw [List.nil_append] at run1 own5
    have F5 := F4.trans (bel5.mono F4.size)
    obtain ⟨A6, c6, w6, run2, own6, bel6⟩ := run_app w5 w4.heap.size A5 c5 E own5 A c l (HR.out.below F5) (by omega) bel5.size
    have b6 : Below w2.heap.size w2 w6 := b4.trans ((bel5.trans bel6).mono b4.size)
    have RC := read_calls A6 c6 (E ++ l) m w6 own6.rd (by rw [List.length_append]; omega)
    rw [show rdC (E ++ l) m = ((k, ns, nr, p), (E.length : Int), 0) by rw [← HE.out]; exact rd_enc k ns nr p m l HQ.out] at RC
    rw [List.length_append] at run2 RC
    unfold GivesC cv at RC
    dsimp only at RC
    have B6 := Lib.hid b6
    clear own5 own6 bel5 bel6 b4 F4 F5 b6 q4 rd4 bel4
    go_wp2_with (first | (at_builtin; refine Lib.wpList_append_run _ rfl (.const (.slice none 0 0)) (.tmp 48) _ _ rfl _ _ rfl rfl _ _ (run1 _) ?_) | (at_builtin; refine Lib.wpList_append_run _ rfl (.tmp 49) (.tmp 50) _ _ rfl _ _ rfl rfl _ _ (run2 _) ?_))
    refine RC.mono ?_
    rintro e w7 ⟨rfl, bel7⟩
    have b7 := B6.out.trans (bel7.mono B6.out.size)
    obtain ⟨z0, z1, z2, z3⟩ := (HK.out w7 b7).1
    have F7 := FB.out _ b7
    have lt : w.heap.size < w7.heap.size := World.block_lt_of_cell? w7 _ z0
    have qe : ∀ v, (binOp .eql 23 (.agg #[.int .i64 k, .int .i64 ns, .int .i64 nr, .bool p]) (.agg #[.int .i64 k, .int .i64 ns, .int .i64 nr, .bool p])).run Try.prog v = .ok (.bool true) v := fun v => by
      rw [ctl_eql]
      simp
    have gd := ctlGuard
    have F8 := Lib.hid (fun o => ba (o := o) F7)
    clear RC run1 run2 bel7 b7 F7
    go_wp2_with fail
    refine (num_calls 0 _).mono ?_
    rintro e w' ⟨rfl, rfl⟩
    go_wp2
    go_ret
    exact ⟨by first | rfl | simp, F8.out _⟩
theorem ControlBytes_walk (k0 s0 r0 : Int) (q0 : Bool) (a1 : Int) (a2 : Option Addr) (len2 cap2 : Nat) (z2 : List Int) (w : World) (w0 : CtlWf k0 s0 r0) (w1 : (Lit.int .i64 a1).wf = true)
    (h : (a2 = none ∧ len2 = 0 ∧ cap2 = 0 ∧ z2 = []) ∨ ∃ x, a2 = some x ∧ len2 ≤ cap2 ∧ cap2 ≤ maxLen ∧ z2.length = cap2 ∧ (∀ i, i < z2.length → w.cell? (x.add i) = some (.int .u8 (z2.getD i 0))) ∧ ∀ n ∈ z2, (Lit.int .u8 n).wf = true) :
    Calls Try.prog 3 #[.agg #[.int .i64 k0, .int .i64 s0, .int .i64 r0, .bool q0], .int .i64 a1, .slice a2 len2 cap2] w fun e w' => e = .returned (.bool true) ∧ Below w.heap.size w w' := by
  obtain ⟨l, rfl, hc, hm, hr⟩ := Rd.of_row h
  by_cases hl : l.length ≤ 50
  · exact ControlBytes_near k0 s0 r0 q0 a1 a2 cap2 l w hr hl
  · exact ControlBytes_far k0 s0 r0 q0 a1 a2 l.length cap2 w (by omega) (by unfold maxLen at hm; omega)
end Go.Proofs.Ythakcaofihacdaa

/- The reference's CtlBytes: CRR and CREJ. No condition. -/
import Derived.Test.YtgkdabllaankcaaCtlRefBytes
namespace Go.Proofs.Ytgkdabllaankcaa
open Go.RowKit
set_option linter.unusedVariables false

set_option maxRecDepth 20000 in
set_option maxHeartbeats 800000 in
theorem refBytes_1_128 (nr : Int) (p : Bool) (w : World) (hr : right 1 0 nr 128 = true) :
    Calls Try.prog 20 #[.agg #[.int .i64 1, .int .i64 0, .int .i64 nr, .bool p], .int .i64 128] w (Gives (enc 1 0 nr p 128) w) := by
  have hbb := (boxed_below w 1 0 nr p).trans ((boxed_below (boxed w 1 0 nr p) 1 0 nr p).mono (boxed_below w 1 0 nr p).size)
  have RC := rightR_calls 1 0 nr p 128 (boxed w 1 0 nr p)
  rw [hr] at RC
  have TB := two_boxes w 1 0 nr p
  generalize hW : boxed (boxed w 1 0 nr p) 1 0 nr p = W at *
  obtain ⟨a1, a2, -, a3, a4, -, -, -⟩ := right_num hr
  have pbb := pb_bound p
  have he : enc 1 0 nr p 128 = [1] ++ fieldB (nr * 2 + pb p) 128 := by
    rw [show ([1] : List UInt8) = fieldB (codeOf 1 + 0 * 2) 128 by decide, ← join_field]
    unfold enc
    rw [hr, if_pos rfl, show numb 1 = true from rfl, if_pos rfl]
  rw [he]
  obtain ⟨V, hV⟩ : ∃ V, W.alloc (.cells #[.int .u8 1] 5) = V := ⟨_, rfl⟩
  have hL : laid W [1] = V := hV
  have own1 : Own V W.heap.size (some ⟨W.heap.size, 0, none⟩) 1 [1] := by rw [← hL]; exact laid_own W [1] (by decide)
  have e1 : Below W.heap.size W V := by rw [← hL]; exact laid_below W [1]
  clear hL
  have n2 := field_len (nr * 2 + pb p) 128
  have F2C := field_calls nr (pb p) 128 V.drew (by omega) (by omega)
  generalize fieldB (nr * 2 + pb p) 128 = F2 at *
  have own2 : Own V.drew W.heap.size (some ⟨W.heap.size, 0, none⟩) 1 [1] := own1
  obtain ⟨A3, c3, w3, run, own3, bel3⟩ := run_app (laid V.drew F2) W.heap.size (some ⟨W.heap.size, 0, none⟩) 1 [1] (own2.alloc _) (some ⟨V.drew.heap.size, 0, none⟩) F2.length F2 (laid_rd _ _) (by simp; omega) (by rw [laid_size]; show W.heap.size ≤ V.heap.size + 1; have := e1.size; omega)
  have e2 : Below W.heap.size W (laid V.drew F2) := e1.trans ((laidD_below V F2).mono e1.size)
  have e3 := e2.trans bel3
  have K0 := Lib.hid (TB V.drew e1.drew)
  have K2 := Lib.hid (TB _ e2)
  have K3 := Lib.hid (TB _ e3)
  have BB := Lib.hid (hbb.trans (e3.mono hbb.size))
  have R3 := Lib.hid own3.rd
  obtain ⟨q0, q1, q2, q3⟩ := TB W (Below.refl _ _)
  obtain ⟨s0, s1, s2, s3⟩ := TB V e1
  clear e1 e2 e3 bel3 own1 own2 own3 TB hbb he pbb hr
  have HW := Lib.hid hW
  unfold boxed at RC
  clear hW
  go_enter Try.func20, Try.ntmps20
  go_wp2_with fail
  refine RC.mono ?_
  rintro e w' ⟨rfl, rfl⟩
  clear RC
  go_wp2_with fail
  first | rw [hV] | skip
  clear q0 q1 q2 q3 s0 s1 s2 s3
  go_region_held_law (fun v => v.cell? ⟨w.heap.size, 0, none⟩ = some (.int .i64 1) ∧ v.cell? ⟨w.heap.size, 1, none⟩ = some (.int .i64 0) ∧ v.cell? ⟨w.heap.size, 2, none⟩ = some (.int .i64 nr) ∧ v.cell? ⟨w.heap.size, 3, none⟩ = some (.bool p)) (first | (with_reducible exact K0.out) | (with_reducible exact K2.out) | (with_reducible exact K3.out))
    (first | (go_at_call 36; with_reducible refine F2C.mono ?_; rintro e w' ⟨rfl, rfl⟩) | (go_at_call 37; with_reducible refine (bit_calls p _).mono ?_; rintro e w' ⟨rfl, rfl⟩) | ((with_reducible refine step_append_run _ ?_ (.tmp 42) (.tmp 49) _ _ ?_ _ _ ?_ ?_ _ _ (run _) ?_); rfl; rfl; (focus (first | (simp [Act.eval]; done) | (simp [Act.eval, Act.put]; done))); (focus (first | (simp [Act.eval]; done) | (simp [Act.eval, Act.put]; done)))))
  go_wp2
  go_ret
  exact ⟨A3, c3, by simp, R3.out, BB.out⟩

set_option maxRecDepth 20000 in
set_option maxHeartbeats 800000 in
theorem refBytes_1_32768 (nr : Int) (p : Bool) (w : World) (hr : right 1 0 nr 32768 = true) :
    Calls Try.prog 20 #[.agg #[.int .i64 1, .int .i64 0, .int .i64 nr, .bool p], .int .i64 32768] w (Gives (enc 1 0 nr p 32768) w) := by
  have hbb := (boxed_below w 1 0 nr p).trans ((boxed_below (boxed w 1 0 nr p) 1 0 nr p).mono (boxed_below w 1 0 nr p).size)
  have RC := rightR_calls 1 0 nr p 32768 (boxed w 1 0 nr p)
  rw [hr] at RC
  have TB := two_boxes w 1 0 nr p
  generalize hW : boxed (boxed w 1 0 nr p) 1 0 nr p = W at *
  obtain ⟨a1, a2, -, a3, a4, -, -, -⟩ := right_num hr
  have pbb := pb_bound p
  have he : enc 1 0 nr p 32768 = [1, 0] ++ fieldB (nr * 2 + pb p) 32768 := by
    rw [show ([1, 0] : List UInt8) = fieldB (codeOf 1 + 0 * 2) 32768 by decide, ← join_field]
    unfold enc
    rw [hr, if_pos rfl, show numb 1 = true from rfl, if_pos rfl]
  rw [he]
  obtain ⟨A1, c1, V, run1, own1, bel1⟩ := app_new (laid W [1]) W.heap.size (some ⟨W.heap.size, 0, none⟩) 1 [1] [0] (laid_own W [1] (by decide)) (by rw [laid_size]; omega) (by decide)
  have e1 : Below W.heap.size W V := (laid_below W [1]).trans bel1
  have run1' : ∀ ty, (Builtin.append_ #[39, 39] ty #[.slice (some ⟨W.heap.size, 0, none⟩) 1 1, .slice (some ⟨W.heap.size + 1, 0, none⟩) 1 1]).run Try.prog ((W.alloc (.cells #[.int .u8 1] 5)).alloc (.cells #[.int .u8 0] 5)) = .ok (.slice A1 2 c1) V := by
    intro ty
    have h := run1 ty
    rw [laid_size] at h
    exact h
  clear run1 bel1
  have n2 := field_len (nr * 2 + pb p) 32768
  have F2C := field_calls nr (pb p) 32768 V.drew (by omega) (by omega)
  generalize fieldB (nr * 2 + pb p) 32768 = F2 at *
  have own2 : Own V.drew W.heap.size A1 c1 [1, 0] := own1
  obtain ⟨A3, c3, w3, run, own3, bel3⟩ := run_app (laid V.drew F2) W.heap.size A1 c1 [1, 0] (own2.alloc _) (some ⟨V.drew.heap.size, 0, none⟩) F2.length F2 (laid_rd _ _) (by simp; omega) (by rw [laid_size]; show W.heap.size ≤ V.heap.size + 1; have := e1.size; omega)
  have e2 : Below W.heap.size W (laid V.drew F2) := e1.trans ((laidD_below V F2).mono e1.size)
  have e3 := e2.trans bel3
  have K0 := Lib.hid (TB V.drew e1.drew)
  have K2 := Lib.hid (TB _ e2)
  have K3 := Lib.hid (TB _ e3)
  have BB := Lib.hid (hbb.trans (e3.mono hbb.size))
  have R3 := Lib.hid own3.rd
  obtain ⟨q0, q1, q2, q3⟩ := TB W (Below.refl _ _)
  obtain ⟨s0, s1, s2, s3⟩ := TB V e1
  clear e1 e2 e3 bel3 own1 own2 own3 TB hbb he pbb hr
  have HW := Lib.hid hW
  unfold boxed at RC
  clear hW
  go_enter Try.func20, Try.ntmps20
  go_wp2_with fail
  refine RC.mono ?_
  rintro e w' ⟨rfl, rfl⟩
  clear RC
  go_wp2_with (at_builtin; refine Lib.wpList_append_run _ rfl _ _ _ _ rfl _ _ rfl rfl _ _ (run1' _) ?_)
  clear q0 q1 q2 q3 s0 s1 s2 s3
  go_region_held_law (fun v => v.cell? ⟨w.heap.size, 0, none⟩ = some (.int .i64 1) ∧ v.cell? ⟨w.heap.size, 1, none⟩ = some (.int .i64 0) ∧ v.cell? ⟨w.heap.size, 2, none⟩ = some (.int .i64 nr) ∧ v.cell? ⟨w.heap.size, 3, none⟩ = some (.bool p)) (first | (with_reducible exact K0.out) | (with_reducible exact K2.out) | (with_reducible exact K3.out))
    (first | (go_at_call 36; with_reducible refine F2C.mono ?_; rintro e w' ⟨rfl, rfl⟩) | (go_at_call 37; with_reducible refine (bit_calls p _).mono ?_; rintro e w' ⟨rfl, rfl⟩) | ((with_reducible refine step_append_run _ ?_ (.tmp 42) (.tmp 49) _ _ ?_ _ _ ?_ ?_ _ _ (run _) ?_); rfl; rfl; (focus (first | (simp [Act.eval]; done) | (simp [Act.eval, Act.put]; done))); (focus (first | (simp [Act.eval]; done) | (simp [Act.eval, Act.put]; done)))))
  go_wp2
  go_ret
  exact ⟨A3, c3, by simp, R3.out, BB.out⟩

set_option maxRecDepth 20000 in
set_option maxHeartbeats 800000 in
theorem refBytes_2_128 (nr : Int) (p : Bool) (w : World) (hr : right 2 0 nr 128 = true) :
    Calls Try.prog 20 #[.agg #[.int .i64 2, .int .i64 0, .int .i64 nr, .bool p], .int .i64 128] w (Gives (enc 2 0 nr p 128) w) := by
  have hbb := (boxed_below w 2 0 nr p).trans ((boxed_below (boxed w 2 0 nr p) 2 0 nr p).mono (boxed_below w 2 0 nr p).size)
  have RC := rightR_calls 2 0 nr p 128 (boxed w 2 0 nr p)
  rw [hr] at RC
  have TB := two_boxes w 2 0 nr p
  generalize hW : boxed (boxed w 2 0 nr p) 2 0 nr p = W at *
  obtain ⟨a1, a2, -, a3, a4, -, -, -⟩ := right_num hr
  have pbb := pb_bound p
  have he : enc 2 0 nr p 128 = [9] ++ fieldB (nr * 2 + pb p) 128 := by
    rw [show ([9] : List UInt8) = fieldB (codeOf 2 + 0 * 2) 128 by decide, ← join_field]
    unfold enc
    rw [hr, if_pos rfl, show numb 2 = true from rfl, if_pos rfl]
  rw [he]
  obtain ⟨V, hV⟩ : ∃ V, W.alloc (.cells #[.int .u8 9] 5) = V := ⟨_, rfl⟩
  have hL : laid W [9] = V := hV
  have own1 : Own V W.heap.size (some ⟨W.heap.size, 0, none⟩) 1 [9] := by rw [← hL]; exact laid_own W [9] (by decide)
  have e1 : Below W.heap.size W V := by rw [← hL]; exact laid_below W [9]
  clear hL
  have n2 := field_len (nr * 2 + pb p) 128
  have F2C := field_calls nr (pb p) 128 V.drew (by omega) (by omega)
  generalize fieldB (nr * 2 + pb p) 128 = F2 at *
  have own2 : Own V.drew W.heap.size (some ⟨W.heap.size, 0, none⟩) 1 [9] := own1
  obtain ⟨A3, c3, w3, run, own3, bel3⟩ := run_app (laid V.drew F2) W.heap.size (some ⟨W.heap.size, 0, none⟩) 1 [9] (own2.alloc _) (some ⟨V.drew.heap.size, 0, none⟩) F2.length F2 (laid_rd _ _) (by simp; omega) (by rw [laid_size]; show W.heap.size ≤ V.heap.size + 1; have := e1.size; omega)
  have e2 : Below W.heap.size W (laid V.drew F2) := e1.trans ((laidD_below V F2).mono e1.size)
  have e3 := e2.trans bel3
  have K0 := Lib.hid (TB V.drew e1.drew)
  have K2 := Lib.hid (TB _ e2)
  have K3 := Lib.hid (TB _ e3)
  have BB := Lib.hid (hbb.trans (e3.mono hbb.size))
  have R3 := Lib.hid own3.rd
  obtain ⟨q0, q1, q2, q3⟩ := TB W (Below.refl _ _)
  obtain ⟨s0, s1, s2, s3⟩ := TB V e1
  clear e1 e2 e3 bel3 own1 own2 own3 TB hbb he pbb hr
  have HW := Lib.hid hW
  unfold boxed at RC
  clear hW
  go_enter Try.func20, Try.ntmps20
  go_wp2_with fail
  refine RC.mono ?_
  rintro e w' ⟨rfl, rfl⟩
  clear RC
  go_wp2_with fail
  first | rw [hV] | skip
  clear q0 q1 q2 q3 s0 s1 s2 s3
  go_region_held_law (fun v => v.cell? ⟨w.heap.size, 0, none⟩ = some (.int .i64 2) ∧ v.cell? ⟨w.heap.size, 1, none⟩ = some (.int .i64 0) ∧ v.cell? ⟨w.heap.size, 2, none⟩ = some (.int .i64 nr) ∧ v.cell? ⟨w.heap.size, 3, none⟩ = some (.bool p)) (first | (with_reducible exact K0.out) | (with_reducible exact K2.out) | (with_reducible exact K3.out))
    (first | (go_at_call 36; with_reducible refine F2C.mono ?_; rintro e w' ⟨rfl, rfl⟩) | (go_at_call 37; with_reducible refine (bit_calls p _).mono ?_; rintro e w' ⟨rfl, rfl⟩) | ((with_reducible refine step_append_run _ ?_ (.tmp 42) (.tmp 49) _ _ ?_ _ _ ?_ ?_ _ _ (run _) ?_); rfl; rfl; (focus (first | (simp [Act.eval]; done) | (simp [Act.eval, Act.put]; done))); (focus (first | (simp [Act.eval]; done) | (simp [Act.eval, Act.put]; done)))))
  go_wp2
  go_ret
  exact ⟨A3, c3, by simp, R3.out, BB.out⟩

set_option maxRecDepth 20000 in
set_option maxHeartbeats 800000 in
theorem refBytes_2_32768 (nr : Int) (p : Bool) (w : World) (hr : right 2 0 nr 32768 = true) :
    Calls Try.prog 20 #[.agg #[.int .i64 2, .int .i64 0, .int .i64 nr, .bool p], .int .i64 32768] w (Gives (enc 2 0 nr p 32768) w) := by
  have hbb := (boxed_below w 2 0 nr p).trans ((boxed_below (boxed w 2 0 nr p) 2 0 nr p).mono (boxed_below w 2 0 nr p).size)
  have RC := rightR_calls 2 0 nr p 32768 (boxed w 2 0 nr p)
  rw [hr] at RC
  have TB := two_boxes w 2 0 nr p
  generalize hW : boxed (boxed w 2 0 nr p) 2 0 nr p = W at *
  obtain ⟨a1, a2, -, a3, a4, -, -, -⟩ := right_num hr
  have pbb := pb_bound p
  have he : enc 2 0 nr p 32768 = [9, 0] ++ fieldB (nr * 2 + pb p) 32768 := by
    rw [show ([9, 0] : List UInt8) = fieldB (codeOf 2 + 0 * 2) 32768 by decide, ← join_field]
    unfold enc
    rw [hr, if_pos rfl, show numb 2 = true from rfl, if_pos rfl]
  rw [he]
  obtain ⟨A1, c1, V, run1, own1, bel1⟩ := app_new (laid W [9]) W.heap.size (some ⟨W.heap.size, 0, none⟩) 1 [9] [0] (laid_own W [9] (by decide)) (by rw [laid_size]; omega) (by decide)
  have e1 : Below W.heap.size W V := (laid_below W [9]).trans bel1
  have run1' : ∀ ty, (Builtin.append_ #[39, 39] ty #[.slice (some ⟨W.heap.size, 0, none⟩) 1 1, .slice (some ⟨W.heap.size + 1, 0, none⟩) 1 1]).run Try.prog ((W.alloc (.cells #[.int .u8 9] 5)).alloc (.cells #[.int .u8 0] 5)) = .ok (.slice A1 2 c1) V := by
    intro ty
    have h := run1 ty
    rw [laid_size] at h
    exact h
  clear run1 bel1
  have n2 := field_len (nr * 2 + pb p) 32768
  have F2C := field_calls nr (pb p) 32768 V.drew (by omega) (by omega)
  generalize fieldB (nr * 2 + pb p) 32768 = F2 at *
  have own2 : Own V.drew W.heap.size A1 c1 [9, 0] := own1
  obtain ⟨A3, c3, w3, run, own3, bel3⟩ := run_app (laid V.drew F2) W.heap.size A1 c1 [9, 0] (own2.alloc _) (some ⟨V.drew.heap.size, 0, none⟩) F2.length F2 (laid_rd _ _) (by simp; omega) (by rw [laid_size]; show W.heap.size ≤ V.heap.size + 1; have := e1.size; omega)
  have e2 : Below W.heap.size W (laid V.drew F2) := e1.trans ((laidD_below V F2).mono e1.size)
  have e3 := e2.trans bel3
  have K0 := Lib.hid (TB V.drew e1.drew)
  have K2 := Lib.hid (TB _ e2)
  have K3 := Lib.hid (TB _ e3)
  have BB := Lib.hid (hbb.trans (e3.mono hbb.size))
  have R3 := Lib.hid own3.rd
  obtain ⟨q0, q1, q2, q3⟩ := TB W (Below.refl _ _)
  obtain ⟨s0, s1, s2, s3⟩ := TB V e1
  clear e1 e2 e3 bel3 own1 own2 own3 TB hbb he pbb hr
  have HW := Lib.hid hW
  unfold boxed at RC
  clear hW
  go_enter Try.func20, Try.ntmps20
  go_wp2_with fail
  refine RC.mono ?_
  rintro e w' ⟨rfl, rfl⟩
  clear RC
  go_wp2_with (at_builtin; refine Lib.wpList_append_run _ rfl _ _ _ _ rfl _ _ rfl rfl _ _ (run1' _) ?_)
  clear q0 q1 q2 q3 s0 s1 s2 s3
  go_region_held_law (fun v => v.cell? ⟨w.heap.size, 0, none⟩ = some (.int .i64 2) ∧ v.cell? ⟨w.heap.size, 1, none⟩ = some (.int .i64 0) ∧ v.cell? ⟨w.heap.size, 2, none⟩ = some (.int .i64 nr) ∧ v.cell? ⟨w.heap.size, 3, none⟩ = some (.bool p)) (first | (with_reducible exact K0.out) | (with_reducible exact K2.out) | (with_reducible exact K3.out))
    (first | (go_at_call 36; with_reducible refine F2C.mono ?_; rintro e w' ⟨rfl, rfl⟩) | (go_at_call 37; with_reducible refine (bit_calls p _).mono ?_; rintro e w' ⟨rfl, rfl⟩) | ((with_reducible refine step_append_run _ ?_ (.tmp 42) (.tmp 49) _ _ ?_ _ _ ?_ ?_ _ _ (run _) ?_); rfl; rfl; (focus (first | (simp [Act.eval]; done) | (simp [Act.eval, Act.put]; done))); (focus (first | (simp [Act.eval]; done) | (simp [Act.eval, Act.put]; done)))))
  go_wp2
  go_ret
  exact ⟨A3, c3, by simp, R3.out, BB.out⟩
end Go.Proofs.Ytgkdabllaankcaa

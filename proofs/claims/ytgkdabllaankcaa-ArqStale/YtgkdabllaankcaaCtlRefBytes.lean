/- The reference's CtlBytes. No condition. -/
import Derived.Test.YtgkdabllaankcaaCtlRefRight
import Derived.Test.YtgkdabllaankcaaG4
import Derived.Test.YtgkdabllaankcaaG3
import Derived.Deep.RegionLaw
namespace Go.Proofs.Ytgkdabllaankcaa
open Go.RowKit
set_option linter.unusedVariables false

theorem two_boxes (w : World) (k ns nr : Int) (p : Bool) (v : World) (hv : Below (boxed (boxed w k ns nr p) k ns nr p).heap.size (boxed (boxed w k ns nr p) k ns nr p) v) :
    v.cell? ⟨w.heap.size, 0, none⟩ = some (.int .i64 k) ∧ v.cell? ⟨w.heap.size, 1, none⟩ = some (.int .i64 ns) ∧ v.cell? ⟨w.heap.size, 2, none⟩ = some (.int .i64 nr) ∧ v.cell? ⟨w.heap.size, 3, none⟩ = some (.bool p) := by
  have hw : w.heap.size < (boxed (boxed w k ns nr p) k ns nr p).heap.size := by rw [boxed_size, boxed_size]; omega
  have hh : (boxed (boxed w k ns nr p) k ns nr p).heap[w.heap.size]? = some (.cells #[.int .i64 k, .int .i64 ns, .int .i64 nr, .bool p] 54 (0, 0)) := by
    have b1 := boxed_below (boxed w k ns nr p) k ns nr p
    rw [b1.block w.heap.size (by rw [boxed_size]; omega)]
    exact heap_alloc_new w _
  refine ⟨?_, ?_, ?_, ?_⟩ <;> rw [hv.cell (by exact hw), cell_of_row _ _ _ _ _ (0, 0) hh] <;> rfl
theorem join_field (x y m : Int) : joinB x y m = fieldB x m ++ fieldB y m := by
  unfold joinB fieldB
  split <;> rfl
theorem field_len (x m : Int) : (fieldB x m).length ≤ 2 := by
  unfold fieldB
  split <;> simp
set_option maxRecDepth 20000 in
theorem refBytes_no (k ns nr : Int) (p : Bool) (m : Int) (w : World) (hr : right k ns nr m = false) :
    Calls Try.prog 20 #[.agg #[.int .i64 k, .int .i64 ns, .int .i64 nr, .bool p], .int .i64 m] w (Gives (enc k ns nr p m) w) := by
  have hbb := (boxed_below w k ns nr p).trans ((boxed_below (boxed w k ns nr p) k ns nr p).mono (boxed_below w k ns nr p).size)
  have RC := rightR_calls k ns nr p m (boxed w k ns nr p)
  have he : enc k ns nr p m = [] := by unfold enc; rw [hr]; rfl
  rw [he]
  unfold boxed at RC hbb
  clear he
  rw [hr] at RC
  go_enter Try.func20, Try.ntmps20
  go_wp2_with fail
  refine RC.mono ?_
  rintro e w' ⟨rfl, rfl⟩
  clear RC
  go_wp2
  go_ret
  exact ⟨none, 0, rfl, Rd.nil _ _, hbb⟩

set_option maxRecDepth 20000 in
set_option maxHeartbeats 800000 in
theorem refBytes_i (ns nr : Int) (p : Bool) (m : Int) (w : World) (hr : right 0 ns nr m = true) :
    Calls Try.prog 20 #[.agg #[.int .i64 0, .int .i64 ns, .int .i64 nr, .bool p], .int .i64 m] w (Gives (enc 0 ns nr p m) w) := by
  have hbb := (boxed_below w 0 ns nr p).trans ((boxed_below (boxed w 0 ns nr p) 0 ns nr p).mono (boxed_below w 0 ns nr p).size)
  have RC := rightR_calls 0 ns nr p m (boxed w 0 ns nr p)
  rw [hr] at RC
  have TB := two_boxes w 0 ns nr p
  generalize hW : boxed (boxed w 0 ns nr p) 0 ns nr p = W at *
  obtain ⟨a1, a2, -, a3, a4, -, -, -⟩ := right_num hr
  have pbb := pb_bound p
  have he : enc 0 ns nr p m = fieldB (ns * 2 + 0) m ++ fieldB (nr * 2 + pb p) m := by
    rw [← join_field]
    unfold enc
    rw [hr, if_pos rfl, show numb 0 = true from rfl, if_pos rfl, show codeOf 0 + ns * 2 = ns * 2 + 0 by rw [show codeOf 0 = 0 from rfl]; omega]
  rw [he]
  have F1C := field_calls ns 0 m W.drew (by omega) (by omega)
  have n1 := field_len (ns * 2 + 0) m
  have n2 := field_len (nr * 2 + pb p) m
  generalize fieldB (ns * 2 + 0) m = F1 at *
  have F2C := field_calls nr (pb p) m (laid W.drew F1) (by omega) (by omega)
  generalize fieldB (nr * 2 + pb p) m = F2 at *
  obtain ⟨A3, c3, w3, run, own3, bel3⟩ := run_app (laid (laid W.drew F1) F2) W.heap.size (some ⟨W.heap.size, 0, none⟩) F1.length F1 ((laid_own W.drew F1 (by omega)).alloc _) (some ⟨(laid W.drew F1).heap.size, 0, none⟩) F2.length F2 (laid_rd _ _) (by omega) (by rw [laid_size, laid_size]; show W.heap.size ≤ W.heap.size + 1 + 1; omega)
  have e1 := laidD_below W F1
  have e2 : Below W.heap.size W (laid (laid W.drew F1) F2) := e1.trans ((laid_below _ F2).mono e1.size)
  have e3 := e2.trans bel3
  have K0 := Lib.hid (TB W.drew (Below.refl W.heap.size W).drew)
  have K1 := Lib.hid (TB _ e1)
  have K2 := Lib.hid (TB _ e2)
  have K3 := Lib.hid (TB _ e3)
  have BB := Lib.hid (hbb.trans (e3.mono hbb.size))
  have R3 := Lib.hid own3.rd
  clear e1 e2 e3 bel3 own3 TB hbb he pbb hr
  have HW := Lib.hid hW
  obtain ⟨q0, q1, q2, q3⟩ := (show W.cell? ⟨w.heap.size, 0, none⟩ = some (.int .i64 0) ∧ W.cell? ⟨w.heap.size, 1, none⟩ = some (.int .i64 ns) ∧ W.cell? ⟨w.heap.size, 2, none⟩ = some (.int .i64 nr) ∧ W.cell? ⟨w.heap.size, 3, none⟩ = some (.bool p) from K0.out)
  unfold boxed at RC
  clear hW
  go_enter Try.func20, Try.ntmps20
  go_wp2_with fail
  refine RC.mono ?_
  rintro e w' ⟨rfl, rfl⟩
  clear RC
  go_wp2_with fail
  clear q0 q1 q2 q3
  go_region_held_law (fun v => v.cell? ⟨w.heap.size, 0, none⟩ = some (.int .i64 0) ∧ v.cell? ⟨w.heap.size, 1, none⟩ = some (.int .i64 ns) ∧ v.cell? ⟨w.heap.size, 2, none⟩ = some (.int .i64 nr) ∧ v.cell? ⟨w.heap.size, 3, none⟩ = some (.bool p)) (first | (with_reducible exact K0.out) | (with_reducible exact K1.out) | (with_reducible exact K2.out) | (with_reducible exact K3.out))
    (first | (go_at_call 36; with_reducible refine F1C.mono ?_; rintro e w' ⟨rfl, rfl⟩) | (go_at_call 36; with_reducible refine F2C.mono ?_; rintro e w' ⟨rfl, rfl⟩) | (go_at_call 37; with_reducible refine (bit_calls p _).mono ?_; rintro e w' ⟨rfl, rfl⟩) | ((with_reducible refine step_append_run _ ?_ (.tmp 17) (.tmp 24) _ _ ?_ _ _ ?_ ?_ _ _ (run _) ?_); rfl; rfl; (focus (first | (simp [Act.eval]; done) | (simp [Act.eval, Act.put]; done))); (focus (first | (simp [Act.eval]; done) | (simp [Act.eval, Act.put]; done)))))
  go_wp2
  go_ret
  exact ⟨A3, c3, by simp, R3.out, BB.out⟩
end Go.Proofs.Ytgkdabllaankcaa

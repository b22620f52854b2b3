/- The reference's CtlBytes: the kinds without numbers. No condition. -/
import Derived.Test.YtgkdabllaankcaaCtlRefBytes2
namespace Go.Proofs.Ytgkdabllaankcaa
open Go.RowKit
set_option linter.unusedVariables false

set_option maxRecDepth 20000 in
set_option maxHeartbeats 800000 in
theorem refBytes_u (k ns nr : Int) (p : Bool) (m : Int) (w : World) (hr : right k ns nr m = true) (h3 : 3 ≤ k ∧ k ≤ 7) :
    Calls Try.prog 20 #[.agg #[.int .i64 k, .int .i64 ns, .int .i64 nr, .bool p], .int .i64 m] w (Gives (enc k ns nr p m) w) := by
  have hbb := (boxed_below w k ns nr p).trans ((boxed_below (boxed w k ns nr p) k ns nr p).mono (boxed_below w k ns nr p).size)
  have RC := rightR_calls k ns nr p m (boxed w k ns nr p)
  rw [hr] at RC
  have TB := two_boxes w k ns nr p
  generalize hW : boxed (boxed w k ns nr p) k ns nr p = W at *
  have pbb := pb_bound p
  have cb := code_bound k
  have he : enc k ns nr p m = [by8 (codeOf k + 16 * pb p)] := by
    unfold enc
    rw [hr, if_pos rfl, show numb k = false from decide_eq_false (by omega), if_neg (by decide)]
  rw [he]
  have BC := bare_calls k h3 W.drew
  obtain ⟨V, hV⟩ : ∃ V, W.drew.alloc (.cells #[.int .i64 111, .int .i64 99, .int .i64 67, .int .i64 15, .int .i64 135] 3) = V := ⟨_, rfl⟩
  rw [hV] at BC
  have e1 : Below W.heap.size W V := by rw [← hV]; exact (Below.refl W.heap.size W).drew.alloc (Nat.le_refl _) _
  have key : ∀ z, z = codeOf k + 16 * pb p → laid V [by8 (codeOf k + 16 * pb p)] = V.alloc (.cells #[.int .u8 z] 5) := by
    rintro z rfl
    rw [laid]
    simp only [List.map_cons, List.map_nil, bvs]
    rw [show (codeOf k + 16 * pb p) % 256 = codeOf k + 16 * pb p by omega]
  have K := Lib.hid key
  have e2 := e1.trans ((laid_below V [by8 (codeOf k + 16 * pb p)]).mono e1.size)
  have K0 := Lib.hid (TB W.drew (Below.refl W.heap.size W).drew)
  have K1 := Lib.hid (TB V e1)
  have K2 := Lib.hid (fun o => TB (V.alloc o) (e1.alloc e1.size o))
  have hz : IntKind.u8.wrap (IntKind.i64.wrap (codeOf k + IntKind.i64.wrap (16 * pb p))) = codeOf k + 16 * pb p := by
    rw [IntKind.wrap_i64, IntKind.wrap_i64, show ∀ x : Int, IntKind.u8.wrap x = x % 256 from fun x => rfl]
    omega
  have HZ := Lib.hid hz
  clear hz
  have BB := Lib.hid (hbb.trans (e2.mono hbb.size))
  obtain ⟨q0, q1, q2, q3⟩ := TB W (Below.refl _ _)
  have b0 : (k == 0) = false := by simp; omega
  have b2 : ¬ k ≤ 2 := by omega
  clear e1 e2 TB hbb he hr hV key h3
  have HW := Lib.hid hW
  unfold boxed at RC
  clear hW
  go_enter Try.func20, Try.ntmps20
  go_wp2_with fail
  refine RC.mono ?_
  rintro e w' ⟨rfl, rfl⟩
  clear RC
  go_wp2_with fail
  clear q0 q1 q2 q3
  go_region_held (fun v => v.cell? ⟨w.heap.size, 0, none⟩ = some (.int .i64 k) ∧ v.cell? ⟨w.heap.size, 3, none⟩ = some (.bool p)) (first | exact ⟨K0.out.1, K0.out.2.2.2⟩ | exact ⟨K1.out.1, K1.out.2.2.2⟩ | exact ⟨(K2.out _).1, (K2.out _).2.2.2⟩)
    (first | (go_at_call 38; with_reducible refine BC.mono ?_; rintro e w' ⟨rfl, rfl⟩) | (go_at_call 37; with_reducible refine (bit_calls p _).mono ?_; rintro e w' ⟨rfl, rfl⟩))
  rw [← K.out _ HZ.out]
  go_wp2
  go_ret
  exact ⟨_, 1, rfl, laid_rd _ _, BB.out⟩
/-- The reference's CtlBytes. -/
theorem refBytes_calls (k ns nr : Int) (p : Bool) (m : Int) (w : World) :
    Calls Try.prog 20 #[.agg #[.int .i64 k, .int .i64 ns, .int .i64 nr, .bool p], .int .i64 m] w (Gives (enc k ns nr p m) w) := by
  cases hr : right k ns nr m
  · exact refBytes_no k ns nr p m w hr
  · obtain ⟨-, -, -, -, -, -, h0, -, h1, h2⟩ := right_num hr
    by_cases hk : k = 0
    · subst hk
      exact refBytes_i ns nr p m w hr
    · have hn := h0 hk
      by_cases h3 : 3 ≤ k ∧ k ≤ 7
      · exact refBytes_u k ns nr p m w hr h3
      · subst hn
        have hm : m = 128 ∨ m = 32768 := of_decide_eq_true (right_mod hr)
        have hk : k = 1 ∨ k = 2 := by omega
        rcases hk with rfl | rfl
        · rcases hm with rfl | rfl
          · exact refBytes_1_128 nr p w hr
          · exact refBytes_1_32768 nr p w hr
        · rcases hm with rfl | rfl
          · exact refBytes_2_128 nr p w hr
          · exact refBytes_2_32768 nr p w hr
end Go.Proofs.Ytgkdabllaankcaa

/- The program's Bytes. No condition. -/
import Derived.Test.YthakcaofihacdaaCtlRight
import Derived.Deep.RegionHeldLaw
namespace Go.Proofs.Ythakcaofihacdaa
open Go.RowKit
set_option linter.unusedVariables false

theorem code_bound (k : Int) : 0 ≤ codeOf k ∧ codeOf k ≤ 135 := by
  unfold codeOf
  repeat' split
  all_goals omega
theorem code_num {k : Int} (h : numb k = true) : codeOf k ≤ 9 := by
  have h : k = 0 ∨ k = 1 ∨ k = 2 := of_decide_eq_true h
  rcases h with rfl | rfl | rfl <;> decide
theorem inR_b {n m : Int} (hm : isMod m = true) (h : inR n m = true) : 0 ≤ n ∧ n < 32768 ∧ n < m := by
  have h := of_decide_eq_true h
  have hm : m = 128 ∨ m = 32768 := of_decide_eq_true hm
  omega
theorem right_mod {k ns nr m : Int} (h : right k ns nr m = true) : isMod m = true := by
  cases hm : isMod m
  · rw [right_no hm] at h
    cases h
  · rfl
theorem right_num {k ns nr m : Int} (h : right k ns nr m = true) : 0 ≤ ns ∧ ns < 32768 ∧ ns < m ∧ 0 ≤ nr ∧ nr < 32768 ∧ nr < m ∧ (k ≠ 0 → ns = 0) ∧ (numb k = false → nr = 0) ∧ 0 ≤ k ∧ k ≤ 7 := by
  have hm := right_mod h
  have hmm : m = 128 ∨ m = 32768 := of_decide_eq_true hm
  by_cases hk : k = 0
  · subst hk
    rw [right_i hm, Bool.and_eq_true] at h
    have a := inR_b hm h.1
    have b := inR_b hm h.2
    exact ⟨a.1, a.2.1, a.2.2, b.1, b.2.1, b.2.2, fun e => absurd rfl e, fun e => (by cases e), by decide, by decide⟩
  · by_cases h12 : k = 1 ∨ k = 2
    · rw [right_s hm h12, Bool.and_eq_true] at h
      have a := of_decide_eq_true h.1
      have b := inR_b hm h.2
      exact ⟨by omega, by omega, by omega, b.1, b.2.1, b.2.2, fun _ => a, fun e => absurd (of_decide_eq_false e) (fun g => g (.inr h12)), by omega, by omega⟩
    · by_cases h37 : 3 ≤ k ∧ k ≤ 7
      · rw [right_u hm h37, Bool.and_eq_true] at h
        have a := of_decide_eq_true h.1
        have b := of_decide_eq_true h.2
        exact ⟨by omega, by omega, by omega, by omega, by omega, by omega, fun _ => a, fun _ => b, by omega, by omega⟩
      · rw [right_x (by omega)] at h
        cases h
theorem num_b {k ns nr m : Int} (h : right k ns nr m = true) (hn : numb k = true) : codeOf k + ns * 2 < 65536 := by
  obtain ⟨a1, a2, -, a3, a4, -, h0, -⟩ := right_num h
  have := code_num hn
  by_cases hk : k = 0
  · subst hk
    rw [show codeOf 0 = 0 from rfl]
    omega
  · rw [h0 hk]
    omega
theorem laidD_below (w : World) (l : List UInt8) : Below w.heap.size w (laid w.drew l) := (Below.refl w.heap.size w).drew.alloc (Nat.le_refl _) _
theorem pb_t : pb true = 1 := rfl
theorem pb_f : pb false = 0 := rfl
theorem pb_bound (p : Bool) : 0 ≤ pb p ∧ pb p ≤ 1 := by cases p <;> decide

set_option maxHeartbeats 800000 in
theorem bytes_calls (k ns nr : Int) (p : Bool) (m : Int) (w : World) :
    Calls Try.prog 9 #[.agg #[.int .i64 k, .int .i64 ns, .int .i64 nr, .bool p], .int .i64 m] w (Gives (enc k ns nr p m) w) := by
  have hbb := (boxed_below w k ns nr p).trans ((boxed_below (boxed w k ns nr p) k ns nr p).mono (boxed_below w k ns nr p).size)
  have RC := right_calls k ns nr p m (boxed w k ns nr p)
  cases hr : right k ns nr m
  · have he : enc k ns nr p m = [] := by unfold enc; rw [hr]; rfl
    rw [he]
    unfold boxed at RC hbb
    clear he
    rw [hr] at RC
    go_enter Try.func9, Try.ntmps9
    go_wp2_with fail
    refine RC.mono ?_
    rintro e w' ⟨rfl, rfl⟩
    clear RC
    go_wp2
    go_ret
    exact ⟨none, 0, rfl, Rd.nil _ _, hbb⟩
  · obtain ⟨a1, a2, -, a3, a4, -, -, -⟩ := right_num hr
    have cb := code_bound k
    rw [hr] at RC
    have hc : ∀ v, Below w.heap.size (boxed (boxed w k ns nr p) k ns nr p) v → True := fun _ _ => trivial
    obtain ⟨W, hW⟩ : ∃ W, W = boxed (boxed w k ns nr p) k ns nr p := ⟨_, rfl⟩
    have cells : ∀ v, Below W.heap.size W v → v.cell? ⟨w.heap.size, 0, none⟩ = some (.int .i64 k) ∧ v.cell? ⟨w.heap.size, 1, none⟩ = some (.int .i64 ns) ∧ v.cell? ⟨w.heap.size, 2, none⟩ = some (.int .i64 nr) ∧ v.cell? ⟨w.heap.size, 3, none⟩ = some (.bool p) := by
      intro v hv
      have hw : w.heap.size < W.heap.size := by rw [hW, boxed_size, boxed_size]; omega
      have hh : W.heap[w.heap.size]? = some (.cells #[.int .i64 k, .int .i64 ns, .int .i64 nr, .bool p] 23 (0, 0)) := by
        rw [hW]
        have b1 := boxed_below (boxed w k ns nr p) k ns nr p
        rw [b1.block w.heap.size (by rw [boxed_size]; omega)]
        exact heap_alloc_new w _
      refine ⟨?_, ?_, ?_, ?_⟩ <;> rw [hv.cell (by exact hw), cell_of_row W _ _ _ _ (0, 0) hh] <;> rfl
    rw [← hW] at RC hbb
    have H0 := Lib.hid (cells W (Below.refl _ _))
    have HK := Lib.hid cells
    clear cells hc
    unfold boxed at RC
    cases hn : numb k
    · have he : enc k ns nr p m = [by8 (codeOf k + 16 * pb p)] := by unfold enc; rw [hr, hn]; rfl
      rw [he]
      have key : ∀ z, z = codeOf k + 16 * pb p → laid W [by8 (codeOf k + 16 * pb p)] = W.alloc (.cells #[.int .u8 z] 5) := by
        rintro z rfl
        rw [laid]
        have := pb_bound p
        simp only [List.map_cons, List.map_nil, bvs]
        rw [show (codeOf k + 16 * pb p) % 256 = codeOf k + 16 * pb p by omega]
      have K := Lib.hid key
      have HW := Lib.hid hW
      clear key he hr hW
      obtain ⟨q0, q1, q2, q3⟩ := H0.out
      cases p
      all_goals
        go_enter Try.func9, Try.ntmps9
        go_wp2_with fail
        refine RC.mono ?_
        rintro e w' ⟨rfl, rfl⟩
        clear RC
        go_wp2_with fail
        refine (numbered_calls k _).mono ?_
        rintro e w' ⟨rfl, rfl⟩
        go_wp2_with fail
        refine (code_calls k _).mono ?_
        rintro e w' ⟨rfl, rfl⟩
        go_wp2
        go_ret
        first | rw [← K.out (codeOf k) (by simp [pb])] | rw [← K.out (codeOf k + 16) (by simp [pb])]
        exact ⟨_, 1, rfl, laid_rd _ _, hbb.trans ((laid_below _ _).mono hbb.size)⟩
    · have he : enc k ns nr p m = joinB (codeOf k + ns * 2) (nr * 2 + pb p) m := by unfold enc; rw [hr, hn]; rfl
      rw [he]
      have c9 := num_b hr hn
      have pbb := pb_bound p
      have JC0 := fun v => join_calls (codeOf k + ns * 2) (nr * 2 + pb p) m v (by omega) (by omega)
      have e1 : IntKind.i64.wrap (codeOf k + IntKind.i64.wrap (ns * 2)) = codeOf k + ns * 2 := by rw [IntKind.wrap_i64, IntKind.wrap_i64]; omega
      have e2 : IntKind.i64.wrap (IntKind.i64.wrap (nr * 2) + pb p) = nr * 2 + pb p := by rw [IntKind.wrap_i64, IntKind.wrap_i64]; omega
      have HW := Lib.hid hW
      clear he hr hW pbb
      generalize joinB (codeOf k + ns * 2) (nr * 2 + pb p) m = J at *
      have JC : ∀ v, Calls Try.prog 18 #[.int .i64 (IntKind.i64.wrap (codeOf k + IntKind.i64.wrap (ns * 2))), .int .i64 (IntKind.i64.wrap (IntKind.i64.wrap (nr * 2) + pb p)), .int .i64 m] v fun e w' => e = .returned (.slice (some ⟨v.heap.size, 0, none⟩) J.length J.length) ∧ laid v J = w' := by
        rw [e1, e2]
        exact JC0
      clear e1 e2 JC0
      have lb := laidD_below W J
      have lr := laid_rd W.drew J
      obtain ⟨q0, q1, q2, q3⟩ := H0.out
      cases p
      all_goals
        first | rw [pb_t] at JC | (simp only [pb_f, Int.add_zero] at JC)
        go_enter Try.func9, Try.ntmps9
        go_wp2_with fail
        refine RC.mono ?_
        rintro e w' ⟨rfl, rfl⟩
        clear RC
        go_wp2_with fail
        refine (numbered_calls k _).mono ?_
        rintro e w' ⟨rfl, rfl⟩
        clear q0 q1 q2 q3
        go_wp2_with fail
        go_region_held (fun v => v.cell? ⟨w.heap.size, 0, none⟩ = some (.int .i64 k) ∧ v.cell? ⟨w.heap.size, 1, none⟩ = some (.int .i64 ns) ∧ v.cell? ⟨w.heap.size, 2, none⟩ = some (.int .i64 nr)) (first | exact ⟨H0.out.1, H0.out.2.1, H0.out.2.2.1⟩ | exact ⟨(HK.out _ (by assumption)).1, (HK.out _ (by assumption)).2.1, (HK.out _ (by assumption)).2.2.1⟩)
          (first | (go_at_call 17; with_reducible refine (code_calls k _).mono ?_; rintro e w' ⟨rfl, rfl⟩) | (go_at_call 18; with_reducible refine (JC _).mono ?_; rintro e w' ⟨rfl, rfl⟩))
        go_wp2
        go_ret
        exact ⟨_, _, rfl, lr, hbb.trans (lb.mono hbb.size)⟩
end Go.Proofs.Ythakcaofihacdaa

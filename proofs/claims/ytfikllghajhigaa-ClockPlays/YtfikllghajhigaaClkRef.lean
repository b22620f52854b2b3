/- Start, Stop and Left of a clock of the reference. No condition. -/
import Derived.Test.YtfikllghajhigaaClkFam
namespace Go.Proofs.Ytfikllghajhigaa
open Go.Proofs Go.RowKit Go.Lib Go.Sort
set_option linter.unusedVariables false

section
variable {w : World} {b now : Nat} {l : List Nat}
theorem refStart_calls (h : CS w 47 b now l) (id after : Int) : Calls Try.prog 11 #[.pointer (some ⟨b, 0, none⟩), .int .i64 id, .int .i64 after] w fun e w' => e = .returned (.bool (isT id)) ∧ CS w' 47 b now (startL l id after) ∧ Only (fun k => k = b) w w' := by
  have ct := timer_calls id
  by_cases hid : 0 ≤ id ∧ id < 32
  · have el : startL l id after = l.set id.toNat (cut 1 after) := by unfold startL; rw [if_pos hid]
    rw [el, isT_pos hid]
    rw [isT_pos hid] at ct
    clear el
    obtain ⟨j, rfl⟩ : ∃ j : Nat, id = (j : Int) := ⟨id.toNat, by omega⟩
    have hj : j < 32 := by omega
    have hj1 : (j : Int) < 32 := by omega
    have c0 := h.at_ hj
    have z0 := h.frozen (1 + j)
    rw [Int.toNat_natCast]
    have FIN := Lib.hid (show CS (w.drew.setCell ⟨b, 1 + j, none⟩ (.int .i64 ((cut 1 after : Nat) : Int))) 47 b now (l.set j (cut 1 after)) ∧ Only (fun k => k = b) w (w.drew.setCell ⟨b, 1 + j, none⟩ (.int .i64 ((cut 1 after : Nat) : Int))) from ⟨CS.set (w := w.drew) h hj (cut_le _ _), only_put (⟨rfl, rfl, rfl, Nat.le_refl _, fun _ _ _ => rfl⟩ : Only (fun k => k = b) w w.drew) _ _⟩)
    have cc := fun v => cutR_calls after 1 1073741824 (by decide) v
    rw [cut_int (lo := 1) (by decide) (by decide) after] at cc
    clear h hid
    generalize hx : l.getD j 0 = x at *
    clear hx
    generalize hy : cut 1 after = y at FIN cc ⊢
    clear hy
    go_enter Try.func11, Try.ntmps11
    go_wp2_with fail
    refine (ct w).mono ?_
    rintro e w' ⟨rfl, rfl⟩
    go_wp2_with fail
    refine wp_region_still_tail 7 (by kernel_rfl) (by kernel_rfl) ?_
    simp only [List.take_succ_cons, List.take_zero, List.drop_succ_cons, List.drop_zero]
    repeat still_step
    still_call (cc _)
    repeat still_step
    refine wpStill_nil ?_
    go_wp2
    go_ret
    exact ⟨rfl, FIN.out⟩
  · have el : startL l id after = l := by unfold startL; rw [if_neg hid]
    rw [el, isT_neg hid]
    rw [isT_neg hid] at ct
    clear el hid
    have FIN := Lib.hid (show CS w 47 b now l ∧ Only (fun k => k = b) w w from ⟨h, Only.refl _ w⟩)
    clear h
    go_enter Try.func11, Try.ntmps11
    go_wp2_with fail
    refine (ct w).mono ?_
    rintro e w' ⟨rfl, rfl⟩
    go_wp2
    go_ret
    exact ⟨rfl, FIN.out⟩
/-- three ways: no such timer, one that stands, one that runs -/
theorem timer_cases (l : List Nat) (id : Int) : (¬ (0 ≤ id ∧ id < 32) ∧ runs l id = false) ∨ ∃ j : Nat, id = (j : Int) ∧ j < 32 ∧ runs l id = decide (0 < l.getD j 0) := by
  by_cases hid : 0 ≤ id ∧ id < 32
  · obtain ⟨j, rfl⟩ : ∃ j : Nat, id = (j : Int) := ⟨id.toNat, by omega⟩
    exact .inr ⟨j, rfl, by omega, runs_nat (by omega)⟩
  · exact .inl ⟨hid, runs_neg hid⟩
theorem refStop_calls (h : CS w 47 b now l) (id : Int) : Calls Try.prog 13 #[.pointer (some ⟨b, 0, none⟩), .int .i64 id] w fun e w' => e = .returned (.bool (runs l id)) ∧ CS w' 47 b now (stopL l id) ∧ Only (fun k => k = b) w w' := by
  have ct := timer_calls id
  rcases timer_cases l id with ⟨hid, hr⟩ | ⟨j, rfl, hj, hr⟩
  · have el : stopL l id = l := by unfold stopL; rw [if_neg (by rw [hr]; decide)]
    rw [el, hr]
    rw [isT_neg hid] at ct
    have FIN := Lib.hid (show CS w 47 b now l ∧ Only (fun k => k = b) w w from ⟨h, Only.refl _ w⟩)
    clear h hr el hid
    go_enter Try.func13, Try.ntmps13
    go_wp2_with fail
    refine (ct w).mono ?_
    rintro e w' ⟨rfl, rfl⟩
    go_wp2
    go_ret
    exact ⟨rfl, FIN.out⟩
  · have c0 := h.at_ hj
    have z0 := h.frozen (1 + j)
    rw [isT_pos (by omega)] at ct
    have hj1 : (j : Int) < 32 := by omega
    by_cases hx : 0 < l.getD j 0
    · rw [decide_eq_true hx] at hr
      have el : stopL l (j : Int) = l.set j 0 := by unfold stopL; rw [if_pos hr]; rfl
      rw [el, hr]
      have FIN := Lib.hid (show CS (w.setCell ⟨b, 1 + j, none⟩ (.int .i64 0)) 47 b now (l.set j 0) ∧ Only (fun k => k = b) w (w.setCell ⟨b, 1 + j, none⟩ (.int .i64 0)) from ⟨h.set hj (by decide), only_put (Only.refl _ w) _ _⟩)
      have hq : ¬ ((l.getD j 0 : Nat) : Int) = 0 := by omega
      clear h hr el hx
      generalize hx : l.getD j 0 = x at *
      clear hx
      go_enter Try.func13, Try.ntmps13
      go_wp2_with fail
      refine (ct w).mono ?_
      rintro e w' ⟨rfl, rfl⟩
      go_wp2
      go_ret
      exact ⟨rfl, FIN.out⟩
    · rw [decide_eq_false hx] at hr
      have el : stopL l (j : Int) = l := by unfold stopL; rw [if_neg (by rw [hr]; decide)]
      rw [el, hr]
      have FIN := Lib.hid (show CS w 47 b now l ∧ Only (fun k => k = b) w w from ⟨h, Only.refl _ w⟩)
      rw [show l.getD j 0 = 0 by omega] at c0
      clear h hr el hx
      go_enter Try.func13, Try.ntmps13
      go_wp2_with fail
      refine (ct w).mono ?_
      rintro e w' ⟨rfl, rfl⟩
      go_wp2
      go_ret
      exact ⟨rfl, FIN.out⟩
theorem refLeft_calls (h : CS w 47 b now l) (id : Int) : Calls Try.prog 18 #[.pointer (some ⟨b, 0, none⟩), .int .i64 id] w fun e w' => e = .returned (.tuple #[.int .i64 (leftL l id), .bool (runs l id)]) ∧ w' = w := by
  have ct := timer_calls id
  rcases timer_cases l id with ⟨hid, hr⟩ | ⟨j, rfl, hj, hr⟩
  · have el : leftL l id = 0 := by unfold leftL; rw [if_neg (by rw [hr]; decide)]
    rw [el, hr]
    rw [isT_neg hid] at ct
    clear h hr el hid
    go_enter Try.func18, Try.ntmps18
    go_wp2_with fail
    refine (ct w).mono ?_
    rintro e w' ⟨rfl, rfl⟩
    go_wp2
    go_ret2
    exact ⟨rfl, rfl⟩
  · have c0 := h.at_ hj
    rw [isT_pos (by omega)] at ct
    have hj1 : (j : Int) < 32 := by omega
    by_cases hx : 0 < l.getD j 0
    · rw [decide_eq_true hx] at hr
      have el : leftL l (j : Int) = ((l.getD j 0 : Nat) : Int) := by unfold leftL; rw [if_pos hr]; rfl
      rw [el, hr]
      have hq : ¬ ((l.getD j 0 : Nat) : Int) = 0 := by omega
      clear h hr el hx
      generalize hx : l.getD j 0 = x at *
      clear hx
      go_enter Try.func18, Try.ntmps18
      go_wp2_with fail
      refine (ct w).mono ?_
      rintro e w' ⟨rfl, rfl⟩
      go_wp2
      go_ret2
      exact ⟨rfl, rfl⟩
    · rw [decide_eq_false hx] at hr
      have el : leftL l (j : Int) = 0 := by unfold leftL; rw [if_neg (by rw [hr]; decide)]
      rw [el, hr]
      rw [show l.getD j 0 = 0 by omega] at c0
      clear h hr el hx
      go_enter Try.func18, Try.ntmps18
      go_wp2_with fail
      refine (ct w).mono ?_
      rintro e w' ⟨rfl, rfl⟩
      go_wp2
      go_ret2
      exact ⟨rfl, rfl⟩
end
end Go.Proofs.Ytfikllghajhigaa

/- Start, Stop and Left of a clock of the program and of the reference. No condition. -/
import Derived.Test.YtfikllghajhigaaClkMem
namespace Go.Proofs.Ytfikllghajhigaa
open Go.RowKit
set_option linter.unusedVariables false

theorem cutR_calls (n a b : Int) (hab : a ≤ b) (w : World) : Calls Try.prog 23 #[.int .i64 n, .int .i64 a, .int .i64 b] w fun e w' => e = .returned (.int .i64 (min (max n a) b)) ∧ w' = w := by
  have hn : n < a ∨ (a ≤ n ∧ b < n) ∨ (a ≤ n ∧ n ≤ b) := by omega
  have hc := Lib.hid (show (n < a → min (max n a) b = a) ∧ (a ≤ n → b < n → min (max n a) b = b) ∧ (a ≤ n → n ≤ b → min (max n a) b = n) by omega)
  rcases hn with hn | ⟨hn, hn'⟩ | ⟨hn, hn'⟩
  all_goals
    go_enter Try.func23, Try.ntmps23
    go_wp2
    go_ret
    refine ⟨?_, rfl⟩
    first
    | (rw [hc.out.1 hn]; rfl)
    | (rw [hc.out.2.1 hn hn']; rfl)
    | (rw [hc.out.2.2 hn hn']; rfl)

section
variable {w : World} {b now : Nat} {l : List Nat}
theorem start_calls (h : CS w 45 b now l) (id after : Int) : Calls Try.prog 10 #[.pointer (some ⟨b, 0, none⟩), .int .i64 id, .int .i64 after] w fun e w' => e = .returned (.bool (isT id)) ∧ CS w' 45 b now (startL l id after) ∧ Only (fun k => k = b) w w' := by
  have ct := isTimer_calls id
  by_cases hid : 0 ≤ id ∧ id < 32
  · have el : startL l id after = l.set id.toNat (cut 1 after) := by unfold startL; rw [if_pos hid]
    rw [el, isT_pos hid]
    rw [isT_pos hid] at ct
    clear el
    obtain ⟨j, rfl⟩ : ∃ j : Nat, id = (j : Int) := ⟨id.toNat, by omega⟩
    have hj : j < 32 := by omega
    have c0 := h.at_ hj
    have z0 := h.frozen (1 + j)
    rw [Int.toNat_natCast]
    have FIN := Lib.hid (show CS (w.setCell ⟨b, 1 + j, none⟩ (.int .i64 ((cut 1 after : Nat) : Int))) 45 b now (l.set j (cut 1 after)) ∧ Only (fun k => k = b) w (w.setCell ⟨b, 1 + j, none⟩ (.int .i64 ((cut 1 after : Nat) : Int))) from ⟨h.set hj (cut_le _ _), only_put (Only.refl _ w) _ _⟩)
    have hcut := Lib.hid (cut_int (lo := 1) (by decide) (by decide) after)
    clear h hid
    generalize hx : l.getD j 0 = x at *
    clear hx
    generalize hy : cut 1 after = y at FIN hcut ⊢
    clear hy
    have hn : after < 1 ∨ 1073741824 < after ∨ (1 ≤ after ∧ after ≤ 1073741824) := by omega
    rcases hn with hn | hn | ⟨hn, hn'⟩
    · have hm := Lib.hid (show (y : Int) = 1 by have := hcut.out; omega)
      clear hcut
      go_enter Try.func10, Try.ntmps10
      go_wp2_with fail
      refine (ct w).mono ?_
      rintro e w' ⟨rfl, rfl⟩
      go_wp2
      go_ret
      rw [hm.out] at FIN
      exact ⟨rfl, FIN.out⟩
    · have hm := Lib.hid (show (y : Int) = 1073741824 by have := hcut.out; omega)
      clear hcut
      go_enter Try.func10, Try.ntmps10
      go_wp2_with fail
      refine (ct w).mono ?_
      rintro e w' ⟨rfl, rfl⟩
      go_wp2
      go_ret
      rw [hm.out] at FIN
      exact ⟨rfl, FIN.out⟩
    · have hm := Lib.hid (show (y : Int) = after by have := hcut.out; omega)
      clear hcut
      go_enter Try.func10, Try.ntmps10
      go_wp2_with fail
      refine (ct w).mono ?_
      rintro e w' ⟨rfl, rfl⟩
      go_wp2
      go_ret
      rw [hm.out] at FIN
      exact ⟨rfl, FIN.out⟩
  · have el : startL l id after = l := by unfold startL; rw [if_neg hid]
    rw [el, isT_neg hid]
    rw [isT_neg hid] at ct
    clear el hid
    have FIN := Lib.hid (show CS w 45 b now l ∧ Only (fun k => k = b) w w from ⟨h, Only.refl _ w⟩)
    clear h
    go_enter Try.func10, Try.ntmps10
    go_wp2_with fail
    refine (ct w).mono ?_
    rintro e w' ⟨rfl, rfl⟩
    go_wp2
    go_ret
    exact ⟨rfl, FIN.out⟩
theorem runs_in {l : List Nat} {id : Int} (h : runs l id = true) : ∃ j : Nat, id = (j : Int) ∧ j < 32 := by
  by_cases hid : 0 ≤ id ∧ id < 32
  · exact ⟨id.toNat, by omega, by omega⟩
  · rw [runs_neg hid] at h; cases h
theorem stop_calls (h : CS w 45 b now l) (id : Int) : Calls Try.prog 12 #[.pointer (some ⟨b, 0, none⟩), .int .i64 id] w fun e w' => e = .returned (.bool (runs l id)) ∧ CS w' 45 b now (stopL l id) ∧ Only (fun k => k = b) w w' := by
  have ct := runs_calls h id
  cases hr : runs l id with
  | true =>
    obtain ⟨j, rfl, hj⟩ := runs_in hr
    have el : stopL l (j : Int) = l.set j 0 := by unfold stopL; rw [if_pos hr]; rfl
    rw [el]
    rw [hr] at ct
    have c0 := h.at_ hj
    have z0 := h.frozen (1 + j)
    have FIN := Lib.hid (show CS (w.setCell ⟨b, 1 + j, none⟩ (.int .i64 0)) 45 b now (l.set j 0) ∧ Only (fun k => k = b) w (w.setCell ⟨b, 1 + j, none⟩ (.int .i64 0)) from ⟨h.set hj (by decide), only_put (Only.refl _ w) _ _⟩)
    clear h hr el
    generalize hx : l.getD j 0 = x at *
    clear hx
    go_enter Try.func12, Try.ntmps12
    go_wp2_with fail
    refine ct.mono ?_
    rintro e w' ⟨rfl, rfl⟩
    go_wp2
    go_ret
    exact ⟨rfl, FIN.out⟩
  | false =>
    have el : stopL l id = l := by unfold stopL; rw [if_neg (by rw [hr]; decide)]
    rw [el]
    rw [hr] at ct
    have FIN := Lib.hid (show CS w 45 b now l ∧ Only (fun k => k = b) w w from ⟨h, Only.refl _ w⟩)
    clear h hr el
    go_enter Try.func12, Try.ntmps12
    go_wp2_with fail
    refine ct.mono ?_
    rintro e w' ⟨rfl, rfl⟩
    go_wp2
    go_ret
    exact ⟨rfl, FIN.out⟩
/-- how many steps are left -/
def leftL (l : List Nat) (id : Int) : Int := if runs l id = true then ((l.getD id.toNat 0 : Nat) : Int) else 0
theorem left_calls (h : CS w 45 b now l) (id : Int) : Calls Try.prog 17 #[.pointer (some ⟨b, 0, none⟩), .int .i64 id] w fun e w' => e = .returned (.tuple #[.int .i64 (leftL l id), .bool (runs l id)]) ∧ w' = w := by
  have ct := runs_calls h id
  cases hr : runs l id with
  | true =>
    obtain ⟨j, rfl, hj⟩ := runs_in hr
    have el : leftL l (j : Int) = ((l.getD j 0 : Nat) : Int) := by unfold leftL; rw [if_pos hr]; rfl
    rw [el]
    rw [hr] at ct
    have c0 := h.at_ hj
    clear h hr el
    generalize hx : l.getD j 0 = x at *
    clear hx
    go_enter Try.func17, Try.ntmps17
    go_wp2_with fail
    refine ct.mono ?_
    rintro e w' ⟨rfl, rfl⟩
    go_wp2
    go_ret2
    exact ⟨rfl, rfl⟩
  | false =>
    have el : leftL l id = 0 := by unfold leftL; rw [if_neg (by rw [hr]; decide)]
    rw [el]
    rw [hr] at ct
    clear h hr el
    go_enter Try.func17, Try.ntmps17
    go_wp2_with fail
    refine ct.mono ?_
    rintro e w' ⟨rfl, rfl⟩
    go_wp2
    go_ret2
    exact ⟨rfl, rfl⟩
end
end Go.Proofs.Ytfikllghajhigaa

/- bytes.Clone gives a new row. Condition: the slice reads as its bytes. -/
import Derived.Test.YtbalhpffdgbdgaaBytesNew
namespace Go.Proofs.Ytbalhpffdgbdgaa
open Go.RowKit
set_option linter.unusedVariables false

theorem nilEq (w : World) (l c : Nat) : (binOp .eql 28 (.slice none l c) (.slice none 0 0)).run Try.prog w = .ok (.bool true) w := by kernel_rfl
theorem someEq (w : World) (a : Addr) (l c : Nat) : (binOp .eql 28 (.slice (some a) l c) (.slice none 0 0)).run Try.prog w = .ok (.bool false) w := by kernel_rfl
theorem cloneOwn_calls (A : Option Addr) (c : Nat) (l : List UInt8) (w : World) (h1 : Rd w A l) (hl : l.length ≤ 1048576) :
    Calls Try.prog 24 #[.slice A l.length c] w (GivesOwn l w) := by
  rcases A with _ | ad
  · have hn : l = [] := by
      rcases l with _ | ⟨x, l⟩
      · rfl
      · obtain ⟨b, off, h, _⟩ := h1 (by simp)
        cases h
    subst hn
    have hq := nilEq w 0 c
    go_enter Try.func24, Try.ntmps24
    go_wp2
    go_ret
    exact ⟨none, 0, rfl, Own.nil _ _, Below.refl _ _⟩
  · have hq := someEq w ad l.length c
    have ho := laid_own w [] (by simp)
    obtain ⟨A', c', w', hrun, hown, hbel⟩ := run_app (laid w []) w.heap.size _ _ _ ho (some ad) c l (h1.below (laid_below _ _)) (by simp; omega) (by rw [laid_size]; omega)
    go_enter Try.func24, Try.ntmps24
    go_wp2_with (at_builtin; refine Lib.wpList_append_run _ rfl _ _ _ _ rfl _ _ rfl rfl _ _ (hrun _) ?_)
    go_ret
    exact ⟨A', c', rfl, hown, (laid_below w []).trans hbel⟩
end Go.Proofs.Ytbalhpffdgbdgaa

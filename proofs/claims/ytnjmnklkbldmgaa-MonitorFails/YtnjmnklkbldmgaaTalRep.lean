/- The places of a window that holds some events; what they are after one more. No condition. -/
import Derived.Test.YtnjmnklkbldmgaaTalRefNote
namespace Go.Proofs.Ytnjmnklkbldmgaa
open Go.RowKit
set_option linter.unusedVariables false

/-- the places of a window of N that holds the events L -/
def rep (N : Nat) (L : List Bool) : List Nat := List.replicate (N - L.length) 0 ++ L.map code
theorem rep_nil (N : Nat) : rep N [] = List.replicate N 0 := by simp [rep]
theorem gs_rep (N : Nat) (L : List Bool) : gs (rep N L) = gl L := by unfold rep; rw [gs_app, gs_zero, Int.zero_add]; rfl
theorem bs_rep (N : Nat) (L : List Bool) : bs (rep N L) = bl L := by unfold rep; rw [bs_app, bs_zero, Int.zero_add]; rfl
theorem nx_length {N : Nat} {L : List Bool} (h : L.length ≤ N) (ok : Bool) : (nx N L ok).length ≤ N := by
  unfold nx
  split <;> simp <;> omega
theorem rep_step {N : Nat} {L : List Bool} (hN : 1 ≤ N) (h : L.length ≤ N) (ok : Bool) : ∃ old q, rep N L = old :: q ∧ q ++ [code ok] = rep N (nx N L ok) := by
  by_cases hf : N < L.length + 1
  · have hl : L.length = N := by omega
    obtain ⟨x, L', rfl⟩ := List.exists_cons_of_ne_nil (l := L) (by rintro rfl; simp at hl; omega)
    refine ⟨code x, L'.map code, ?_, ?_⟩
    · unfold rep
      rw [show N - (x :: L').length = 0 by omega]
      rfl
    · have e : nx N (x :: L') ok = L' ++ [ok] := by unfold nx; rw [if_pos hf]; rfl
      rw [e]
      unfold rep
      rw [show N - (L' ++ [ok]).length = 0 by simp at hl ⊢; omega]
      simp
  · refine ⟨0, List.replicate (N - L.length - 1) 0 ++ L.map code, ?_, ?_⟩
    · unfold rep
      rw [show N - L.length = (N - L.length - 1) + 1 by omega, List.replicate_succ]
      rfl
    · unfold nx
      rw [if_neg hf]
      unfold rep
      rw [show N - (L ++ [ok]).length = N - L.length - 1 by simp; omega]
      simp
end Go.Proofs.Ytnjmnklkbldmgaa

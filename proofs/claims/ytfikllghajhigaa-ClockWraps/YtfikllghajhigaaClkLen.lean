/- How many timers can run out; two lists of the same timers are one. No condition. -/
import Derived.Test.YtfikllghajhigaaClkFam
namespace Go.Proofs.Ytfikllghajhigaa
open Go.Proofs Go.RowKit Go.Lib Go.Sort
set_option linter.unusedVariables false

theorem nodup_len : ∀ {L M : List (Fin 32)}, L.Pairwise (fun x y => x ≠ y) → (∀ x ∈ L, x ∈ M) → L.length ≤ M.length
  | [], _, _, _ => Nat.zero_le _
  | x :: L, M, h, hm => by
    rw [List.pairwise_cons] at h
    have hx := hm x (List.mem_cons_self ..)
    have := nodup_len (M := M.erase x) h.2 fun y hy => (List.mem_erase_of_ne (Ne.symm (h.1 y hy))).2 (hm y (List.mem_cons_of_mem _ hy))
    rw [List.length_erase_of_mem hx] at this
    have := List.length_pos_of_mem hx
    rw [List.length_cons]
    omega
theorem ne_of_up {r : Fin 32 → Nat} : ∀ {L : List (Fin 32)}, L.Pairwise (fun x y => r x < r y) → L.Pairwise (fun x y => x ≠ y)
  | [], _ => List.Pairwise.nil
  | x :: L, h => by
    rw [List.pairwise_cons] at h ⊢
    exact ⟨fun y hy e => by have := h.1 y hy; rw [e] at this; omega, ne_of_up h.2⟩
theorem Exp.length {l : List Nat} {n : Nat} {L : List (Fin 32)} (h : Exp l n L) : L.length ≤ 32 := by
  have e := nodup_len (M := ids l n 32) (ne_of_up h.1) fun x hx => (mem_ids 32 x).2 ⟨x.isLt, (h.2 x).1 hx⟩
  have := ids_len (l := l) (n := n) 32
  omega
theorem same_res {v : World} {q l n : _} {A B : Option Addr} {L M : List (Fin 32)} (c c' : Nat) (r1 : Res v q A L) (r2 : Res v q B M) (h1 : Exp l n L) (h2 : Exp l n M) :
    Calls Try.prog 14 #[.slice A L.length c, .slice B M.length c'] v fun e v' => e = .returned (.bool true) ∧ ∃ m, v' = v.drewN m := by
  obtain rfl := h1.unique h2
  exact same_calls c c' r1 r2 (by have := h1.length; omega)
end Go.Proofs.Ytfikllghajhigaa

/- Plain mathematics of the ends that FrameEnds asks for. No condition on the program: nothing of it is named here. -/
import Derived.Test.YtnogdlekijpdhaaFraPlain
namespace Go.Proofs.Ytnogdlekijpdhaa.Fra
open Fcs Oct
set_option linter.unusedVariables false

def zs (m : Nat) : List UInt8 := List.replicate m 0
def zsum (m : Nat) (wide : Bool) : List UInt8 := zs m ++ sumB wide (zs m)
theorem zs_len (m : Nat) : (zs m).length = m := by simp [zs]
theorem zsum_len (m : Nat) (wide : Bool) : (zsum m wide).length = m + sumN wide := by unfold zsum; rw [sum_len, zs_len]
theorem sumN_le (wide : Bool) : 2 ≤ sumN wide ∧ sumN wide ≤ 4 := by cases wide <;> decide
/-- no Flag; an Escape at most at the end, where two is true -/
def ok (two : Bool) (bs : List UInt8) (j : Nat) : Prop := bs.getD j 0 ≠ 126 ∧ (bs.getD j 0 = 125 → two = true ∧ bs.length ≤ j + 1)
theorem clean_of {bs : List UInt8} (h : ∀ j, j < bs.length → ok false bs j) : ∀ c ∈ bs, c ≠ 126 ∧ c ≠ 125 := by
  intro c hc
  obtain ⟨j, hj, rfl⟩ := List.getElem_of_mem hc
  have := h j hj
  unfold ok at this
  rw [List.getD_eq_getElem?_getD, List.getElem?_eq_getElem hj] at this
  simp at this
  exact this
theorem end_0 (m : Nat) (wide : Bool) (L : Nat) (hL : 4 ≤ L) (h : ∀ j, j < ((zsum m wide).take (sumN wide)).length → ok false ((zsum m wide).take (sumN wide)) j) : ends wide (after L (.rd false []) ((zsum m wide).take (sumN wide))) = (2, []) := by
  have hl : ((zsum m wide).take (sumN wide)).length = sumN wide := by rw [List.length_take, zsum_len]; omega
  have hs := sumN_le wide
  rw [after_clean [] _ (Nat.zero_le _) (clean_of h), hl, if_pos (by simp; omega)]
  show judge wide ([] ++ (zsum m wide).take (sumN wide)) = _
  rw [List.nil_append]
  unfold judge
  rw [hl, if_neg (by omega), if_pos (by omega)]
theorem end_1 (m : Nat) (wide : Bool) (h : ∀ j, j < (zsum m wide ++ [1]).length → ok false (zsum m wide ++ [1]) j) : ends wide (after (m + sumN wide) (.rd false []) (zsum m wide ++ [1])) = (3, []) := by
  rw [after_clean [] _ (Nat.zero_le _) (clean_of h), if_neg (by rw [List.length_append, zsum_len]; simp)]
  rfl
theorem end_2 (m : Nat) (wide : Bool) (L : Nat) (hL : m + sumN wide ≤ L) (h : ∀ j, j < (zsum m wide ++ [125]).length → ok true (zsum m wide ++ [125]) j) : ends wide (after L (.rd false []) (zsum m wide ++ [125])) = (5, []) := by
  have hc : ∀ c ∈ zsum m wide, c ≠ 126 ∧ c ≠ 125 := by
    intro c hc
    obtain ⟨j, hj, rfl⟩ := List.getElem_of_mem hc
    have := h j (by simp; omega)
    unfold ok at this
    rw [List.getD_eq_getElem?_getD, List.getElem?_append_left hj, List.getElem?_eq_getElem hj] at this
    simp at this
    refine ⟨this.1, fun e => ?_⟩
    have := this.2 e
    omega
  rw [after_append, after_clean [] _ (Nat.zero_le _) hc, zsum_len, if_pos (by simp; omega)]
  rfl
theorem chk_first (m : Nat) (wide : Bool) (hm : 1 ≤ m) : chkE wide ((zsum m wide).set 0 1) = 2 := by
  have hx := zsum_len m wide
  have hs := sumN_le wide
  have h0 : (zsum m wide).getD 0 0 = 0 := by
    unfold zsum zs
    obtain ⟨n, rfl⟩ : ∃ n, m = n + 1 := ⟨m - 1, by omega⟩
    rw [List.replicate_succ]
    rfl
  have e1 : (zsum m wide).set 0 1 = (zsum m wide).set (0 / 8) ((zsum m wide).getD (0 / 8) 0 ^^^ UInt8.ofBitVec (1#8 <<< (0 % 8))) := by
    show _ = (zsum m wide).set 0 ((zsum m wide).getD 0 0 ^^^ _)
    rw [h0]
    rfl
  have hb := fun t => bitAt_set (zsum m wide) 0 (by omega) t
  rw [← e1] at hb
  have hl : ((zsum m wide).set 0 1).length = m + sumN wide := by simp [hx]
  unfold chkE
  rw [if_neg (by omega)]
  split
  · rename_i he
    exfalso
    have hq : (zsum m wide).set 0 1 = ((zsum m wide).set 0 1).take (((zsum m wide).set 0 1).length - sumN wide) ++ sumB wide (((zsum m wide).set 0 1).take (((zsum m wide).set 0 1).length - sumN wide)) := by
      rw [← he, List.take_append_drop]
    have h1 : ∀ t, (t < 0 ∨ 0 + 16 ≤ t) → bitAt ((zsum m wide).set 0 1) t = bitAt (zsum m wide) t := by
      intro t ht
      rw [hb t, decide_eq_false (by omega), Bool.xor_false]
    have h2 : bitAt ((zsum m wide).set 0 1) 0 ≠ bitAt (zsum m wide) 0 := by
      rw [hb 0]
      simp
    cases wide
    · exact turned_told p16 2 (by decide) (by decide) (by decide) (zs m) _ _ (by rw [hl, zs_len]; rfl) 0 h1 0 h2 hq
    · exact turned_told p32 4 (by decide) (by decide) (by decide) (zs m) _ _ (by rw [hl, zs_len]; rfl) 0 h1 0 h2 hq
  · rfl
theorem end_3 (m : Nat) (wide : Bool) (L : Nat) (hL : m + sumN wide ≤ L) (hm : 1 ≤ m) (h : ∀ j, j < ((zsum m wide).set 0 1).length → ok false ((zsum m wide).set 0 1) j) : ends wide (after L (.rd false []) ((zsum m wide).set 0 1)) = (4, []) := by
  have hl : ((zsum m wide).set 0 1).length = m + sumN wide := by simp [zsum_len]
  rw [after_clean [] _ (Nat.zero_le _) (clean_of h), hl, if_pos (by simp; omega)]
  show judge wide ([] ++ (zsum m wide).set 0 1) = _
  rw [List.nil_append]
  unfold judge
  rw [hl, if_neg (by omega), if_neg (by omega), chk_first m wide hm, if_pos (by decide)]
theorem end_5 (m : Nat) (wide : Bool) (hm : 1 ≤ m) (h : ∀ j, j < (zsum m wide).length → ok false (zsum m wide) j) : ends wide (after (m + sumN wide) (.rd false []) (zsum m wide)) = (1, zs m) := by
  rw [after_clean [] _ (Nat.zero_le _) (clean_of h), zsum_len, if_pos (by simp)]
  show judge wide ([] ++ zsum m wide) = _
  rw [List.nil_append]
  exact judge_sum (zs m) (by rw [zs_len]; omega)
end Go.Proofs.Ytnogdlekijpdhaa.Fra

/- What is written is read as it was; so no control field is written as the beginning of another. No condition. -/
import Derived.Test.YthakcaofihacdaaCtlRefRead
namespace Go.Proofs.Ythakcaofihacdaa
open Go.RowKit
set_option linter.unusedVariables false

theorem bAt_cons0 (a : UInt8) (l : List UInt8) : bAt (a :: l) 0 = (a.toNat : Int) := rfl
theorem pb_rem (n : Int) (p : Bool) : decide ((n * 2 + pb p) % 2 = 1) = p ∧ (n * 2 + pb p) / 2 = n := by
  cases p
  · rw [pb_f]
    exact ⟨decide_eq_false (by omega), by omega⟩
  · rw [pb_t]
    exact ⟨decide_eq_true (by omega), by omega⟩
theorem kind_num {k ns X : Int} (hk : k = 0 ∨ ((k = 1 ∨ k = 2) ∧ ns = 0)) (hX : X % 256 = (codeOf k + ns * 2) % 256) : kindN (X % 256) = (k, true) := by
  rw [hX]
  rcases hk with rfl | ⟨rfl | rfl, rfl⟩
  · rw [show codeOf 0 + ns * 2 = ns * 2 by rw [show codeOf 0 = 0 from rfl]; omega]
    unfold kindN
    rw [if_pos (by omega)]
  · rfl
  · rfl
theorem rd_enc (k ns nr : Int) (p : Bool) (m : Int) (t : List UInt8) (h : right k ns nr m = true) : rdC (enc k ns nr p m ++ t) m = ((k, ns, nr, p), ((enc k ns nr p m).length : Int), 0) := by
  obtain ⟨a1, a2, a3, a4, a5, a6, a7, a8, a9, a10⟩ := right_num h
  have hM := right_mod h
  have hm : m = 128 ∨ m = 32768 := of_decide_eq_true hM
  have hp := pb_bound p
  have hpr := pb_rem nr p
  cases hn : numb k
  · have he : enc k ns nr p m = [by8 (codeOf k + 16 * pb p)] := by unfold enc; rw [h, hn]; rfl
    have hnn : ¬ (k = 0 ∨ k = 1 ∨ k = 2) := of_decide_eq_false hn
    rw [he]
    have cb := code_bound k
    have hz1 := a7 (by omega)
    have hz2 := a8 hn
    subst hz1 hz2
    exact rdC_bare hM (by simp) (by omega) a10 p (by show ((by8 (codeOf k + 16 * pb p)).toNat : Int) = _; rw [by8_nat]; omega)
  · have he : enc k ns nr p m = joinB (codeOf k + ns * 2) (nr * 2 + pb p) m := by unfold enc; rw [h, hn]; rfl
    have hx := num_b h hn
    have cb := code_bound k
    have hnn : k = 0 ∨ k = 1 ∨ k = 2 := of_decide_eq_true hn
    have hk : k = 0 ∨ ((k = 1 ∨ k = 2) ∧ ns = 0) := by
      by_cases h0 : k = 0
      · exact .inl h0
      · exact .inr ⟨by omega, a7 h0⟩
    have hcn := code_num hn
    have hfirst : k ≠ 0 → codeOf k + ns * 2 = codeOf k := fun h0 => by rw [a7 h0]; omega
    have hzero : k = 0 → (codeOf k + ns * 2) / 2 = ns := fun h0 => by rw [h0, show codeOf 0 = 0 from rfl]; omega
    have hd2 : (nr * 2 + pb p) / 2 = nr := hpr.2
    have hlow : m = 128 → codeOf k + ns * 2 < 256 := fun e => by
      by_cases h0 : k = 0
      · rw [h0, show codeOf 0 = 0 from rfl]; omega
      · rw [a7 h0]; omega
    rw [he]
    have fin : ∀ s : Int × Int × Int, s.1 = codeOf k + ns * 2 → s.2.1 = nr * 2 + pb p → ¬ s.2.2 = 0 → rdNum k s = ((k, ns, nr, p), s.2.2, 0) := by
      intro s h1 h2 h3
      unfold rdNum
      rw [if_neg h3, h1, h2, hpr.1, hd2]
      by_cases h0 : k = 0
      · rw [if_pos h0, hzero h0]
      · rw [if_neg h0, if_pos (hfirst h0), a7 h0]
    rcases hm with rfl | rfl
    · rw [show joinB (codeOf k + ns * 2) (nr * 2 + pb p) 128 = [by8 (codeOf k + ns * 2), by8 (nr * 2 + pb p)] from rfl]
      have q0 : bAt ([by8 (codeOf k + ns * 2), by8 (nr * 2 + pb p)] ++ t) 0 = (codeOf k + ns * 2) % 256 := by8_nat _
      have q1 : bAt ([by8 (codeOf k + ns * 2), by8 (nr * 2 + pb p)] ++ t) 1 = (nr * 2 + pb p) % 256 := by8_nat _
      have hlo := hlow rfl
      have sp : splitN ([by8 (codeOf k + ns * 2), by8 (nr * 2 + pb p)] ++ t) 128 = ((codeOf k + ns * 2) % 256, (nr * 2 + pb p) % 256, 2) := by
        unfold splitN
        rw [if_pos ⟨rfl, by simp⟩, q0, q1]
      rw [rdC_num (k := k) hM (by simp) (by rw [q0]; exact kind_num hk rfl) hn, sp, fin _ (by show (codeOf k + ns * 2) % 256 = _; omega) (by show (nr * 2 + pb p) % 256 = _; omega) (by show ¬ (2 : Int) = 0; decide)]
      rfl
    · rw [show joinB (codeOf k + ns * 2) (nr * 2 + pb p) 32768 = [by8 (codeOf k + ns * 2), by8 ((codeOf k + ns * 2) / 256), by8 (nr * 2 + pb p), by8 ((nr * 2 + pb p) / 256)] from rfl]
      have q0 : bAt ([by8 (codeOf k + ns * 2), by8 ((codeOf k + ns * 2) / 256), by8 (nr * 2 + pb p), by8 ((nr * 2 + pb p) / 256)] ++ t) 0 = (codeOf k + ns * 2) % 256 := by8_nat _
      have q1 : bAt ([by8 (codeOf k + ns * 2), by8 ((codeOf k + ns * 2) / 256), by8 (nr * 2 + pb p), by8 ((nr * 2 + pb p) / 256)] ++ t) 1 = (codeOf k + ns * 2) / 256 % 256 := by8_nat _
      have q2 : bAt ([by8 (codeOf k + ns * 2), by8 ((codeOf k + ns * 2) / 256), by8 (nr * 2 + pb p), by8 ((nr * 2 + pb p) / 256)] ++ t) 2 = (nr * 2 + pb p) % 256 := by8_nat _
      have q3 : bAt ([by8 (codeOf k + ns * 2), by8 ((codeOf k + ns * 2) / 256), by8 (nr * 2 + pb p), by8 ((nr * 2 + pb p) / 256)] ++ t) 3 = (nr * 2 + pb p) / 256 % 256 := by8_nat _
      have sp : splitN ([by8 (codeOf k + ns * 2), by8 ((codeOf k + ns * 2) / 256), by8 (nr * 2 + pb p), by8 ((nr * 2 + pb p) / 256)] ++ t) 32768 = ((codeOf k + ns * 2) % 256 + 256 * ((codeOf k + ns * 2) / 256 % 256), (nr * 2 + pb p) % 256 + 256 * ((nr * 2 + pb p) / 256 % 256), 4) := by
        unfold splitN
        rw [if_neg (by omega), if_pos ⟨rfl, by simp⟩, q0, q1, q2, q3]
      rw [rdC_num (k := k) hM (by simp) (by rw [q0]; exact kind_num hk rfl) hn, sp, fin _ (by show (codeOf k + ns * 2) % 256 + 256 * ((codeOf k + ns * 2) / 256 % 256) = _; omega) (by show (nr * 2 + pb p) % 256 + 256 * ((nr * 2 + pb p) / 256 % 256) = _; omega) (by show ¬ (4 : Int) = 0; decide)]
      rfl
/-- what is written as the beginning of another is the other -/
theorem enc_apart {k ns nr k' ns' nr' m : Int} {p p' : Bool} (h : right k ns nr m = true) (h' : right k' ns' nr' m = true) (t : List UInt8) (he : enc k' ns' nr' p' m = enc k ns nr p m ++ t) : (k, ns, nr, p) = (k', ns', nr', p') := by
  have r1 := rd_enc k ns nr p m t h
  have r2 := rd_enc k' ns' nr' p' m [] h'
  rw [List.append_nil, he, r1] at r2
  exact (Prod.mk.inj r2).1
theorem enc_pos {k ns nr m : Int} {p : Bool} (h : right k ns nr m = true) : 0 < (enc k ns nr p m).length := by
  unfold enc joinB
  rw [if_pos h]
  split
  · split <;> simp
  · simp
end Go.Proofs.Ythakcaofihacdaa

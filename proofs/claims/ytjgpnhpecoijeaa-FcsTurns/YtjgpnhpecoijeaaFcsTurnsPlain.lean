/- What the law FcsTurns's loop keeps, and what it comes to. Plain; no condition on the program. -/
import Derived.Test.YtjgpnhpecoijeaaFcsLinearWalk
namespace Go.Proofs.Ytjgpnhpecoijeaa
open Go.RowKit
open Fcs
set_option linter.unusedVariables false

theorem Part.set_ {w : World} {g n k : Nat} {X : List UInt8} (h : Part w g n k X) (hX : X.length = k) (hkn : k ≤ n) (i : Nat) (hi : i < k) (v : UInt8) : Part (w.setCell ⟨g, i, none⟩ (bv v)) g n k (X.set i v) := by
  obtain ⟨cs, h1, h2, h3⟩ := h
  refine ⟨cs.setIfInBounds i (bv v), ?_, by simp [h2], fun j hj => ?_⟩
  · simp [World.setCell, Array.getElem?_modify, h1]
  · by_cases e : j = i
    · subst e
      rw [Array.getElem?_setIfInBounds_self_of_lt (by omega)]
      simp [show j < X.length by omega]
    · rw [Array.getElem?_setIfInBounds_ne (by omega), h3 j hj]
      simp [Ne.symm e]
theorem Part.at_ {w : World} {g n k : Nat} {X : List UInt8} (h : Part w g n k X) (hkn : k ≤ n) (i : Nat) (hi : i < k) : w.cell? ⟨g, i, none⟩ = some (bv (X.getD i 0)) ∧ w.frozen? ⟨g, i, none⟩ = false := by
  refine ⟨?_, (h.cell i (by omega)).2⟩
  obtain ⟨cs, h1, h2, h3⟩ := h
  rw [cell_of_row w g i cs _ (0, 0) h1]
  exact h3 i hi
theorem Part.reads {w : World} {g n k : Nat} {X : List UInt8} (h : Part w g n k X) (hX : X.length = k) : Rd w (some ⟨g, 0, none⟩) X := fun _ => by
  obtain ⟨cs, h1, h2, h3⟩ := h
  refine ⟨g, 0, rfl, fun j hj => ?_⟩
  rw [Nat.zero_add, cell_of_row w g j cs _ (0, 0) h1]
  exact h3 j (by omega)
theorem Part.of_own {w : World} {base : Nat} {A : Option Addr} {c : Nat} {l : List UInt8} (h : Own w base A c l) (hl : l ≠ []) : ∃ g, A = some ⟨g, 0, none⟩ ∧ base ≤ g ∧ l.length ≤ c ∧ c ≤ maxLen ∧ Part w g c l.length l := by
  rcases h.2 with ⟨_, h0⟩ | ⟨g, cap, cur, hv, hb, hh, hnc, hcm, hsz, hcur⟩
  · exact absurd (List.eq_nil_of_length_eq_zero h0) hl
  · injection hv with h1 _ h3
    subst h1 h3
    refine ⟨g, rfl, hb, hnc, hcm, cur, hh, by simpa using hsz, fun j hj => ?_⟩
    have h1 := congrArg (fun t => t[j]?) hcur
    simp only [List.getElem?_take, Nat.mul_one, hj, if_true, List.getElem?_map, List.getElem?_eq_getElem hj] at h1
    rw [← Array.getElem?_toList, h1]
    simp [List.getElem?_eq_getElem hj]

/-- the bytes q are p but for some of the m bits from k on; t: at least one is turned -/
def Turns (p : List UInt8) (k m : Nat) (q : List UInt8) (t : Bool) : Prop :=
  q.length = p.length ∧ (∀ j, (j < k ∨ k + m ≤ j) → bitAt q j = bitAt p j) ∧ (t = true → ∃ j, bitAt q j ≠ bitAt p j)
theorem Turns.start (p : List UInt8) (k : Nat) : Turns p k 0 p false := ⟨rfl, fun _ _ => rfl, fun h => by cases h⟩
theorem Turns.skip {p : List UInt8} {k m : Nat} {q : List UInt8} {t : Bool} (h : Turns p k m q t) : Turns p k (m + 1) q t := ⟨h.1, fun j hj => h.2.1 j (by omega), h.2.2⟩
theorem Turns.flip {p : List UInt8} {k m : Nat} {q : List UInt8} {t : Bool} (h : Turns p k m q t) (hj : k + m < 8 * p.length) :
    Turns p k (m + 1) (q.set ((k + m) / 8) (q.getD ((k + m) / 8) 0 ^^^ UInt8.ofBitVec (1#8 <<< ((k + m) % 8)))) true := by
  have hl : (k + m) / 8 < q.length := by rw [h.1]; omega
  refine ⟨by simp [h.1], fun j hj' => ?_, fun _ => ⟨k + m, ?_⟩⟩
  · rw [bitAt_set q (k + m) hl, decide_eq_false (by omega), Bool.xor_false]
    exact h.2.1 j (by omega)
  · rw [bitAt_set q (k + m) hl, h.2.1 (k + m) (by omega)]
    simp
theorem Turns.told {wide : Bool} {l q : List UInt8} {k m : Nat} (hm : m ≤ 16) (h : Turns (l ++ sumB wide l) k m q true) : chkE wide q = 2 := by
  have hn : q.length = l.length + sumN wide := by rw [h.1, List.length_append, sumB_len]
  have h1 : ¬ q.length < sumN wide := by omega
  unfold chkE
  rw [if_neg h1]
  split
  · rename_i he
    exfalso
    obtain ⟨t0, ht0⟩ := h.2.2 rfl
    have hq : q = q.take (q.length - sumN wide) ++ sumB wide (q.take (q.length - sumN wide)) := by
      rw [← he, List.take_append_drop]
    cases wide
    · exact turned_told p16 2 (by decide) (by decide) (by decide) l _ q hn k (fun t ht => h.2.1 t (by omega)) t0 ht0 hq
    · exact turned_told p32 4 (by decide) (by decide) (by decide) l _ q hn k (fun t ht => h.2.1 t (by omega)) t0 ht0 hq
  · rfl
theorem flip_val (x : UInt8) (s : Nat) (hs : s < 8) : ((x ^^^ UInt8.ofBitVec (1#8 <<< s)).toNat : Int) = bits .xor .u8 (x.toNat : Int) ((2 ^ s : Nat) : Int) := by
  have hx := x.toNat_lt
  have h2 : 2 ^ s < 256 := Nat.pow_lt_pow_right (by decide) (show s < 8 from hs)
  rw [u8_xor_nat _ _ hx h2]
  have e : (UInt8.ofBitVec (1#8 <<< s)).toNat = 2 ^ s := by
    show (1#8 <<< s).toNat = 2 ^ s
    rw [BitVec.toNat_shiftLeft]
    simp only [BitVec.toNat_ofNat, Nat.one_mod, Nat.one_shiftLeft]
    exact Nat.mod_eq_of_lt h2
  rw [UInt8.toNat_xor, e]
theorem flip_val' (x : UInt8) (s : Nat) (hs : s < 8) : ((x ^^^ UInt8.ofBitVec (1#8 <<< s)).toNat : Int) = bits .xor .u8 (x.toNat : Int) ((2 : Int) ^ s % 256) := by
  rw [flip_val x s hs]
  have h2 : 2 ^ s < 256 := Nat.pow_lt_pow_right (by decide) (show s < 8 from hs)
  have e : (2 : Int) ^ s = ((2 ^ s : Nat) : Int) := by simp
  rw [e]
  generalize 2 ^ s = y at h2
  rw [Int.emod_eq_of_lt (by omega) (by omega)]
end Go.Proofs.Ytjgpnhpecoijeaa

/- The law FcsLinear, walked. Condition: each slice reads as its bytes. -/
import Derived.Test.YtjgpnhpecoijeaaFcsChecksWalk
import Derived.RegionTactic
namespace Go.Proofs.Ytjgpnhpecoijeaa
open Go.RowKit
open Fcs
set_option linter.unusedVariables false

/-- block g of w is a row of n bytes, not marked, whose first k are those of X -/
def Part (w : World) (g n k : Nat) (X : List UInt8) : Prop := ∃ cs : Array Value, w.heap[g]? = some (.cells cs 5 (0, 0)) ∧ cs.size = n ∧ ∀ j, j < k → cs[j]? = some (bv (X.getD j 0))
theorem Part.cell {w : World} {g n k : Nat} {X : List UInt8} (h : Part w g n k X) (j : Nat) (hj : j < n) : (∃ v, w.cell? ⟨g, j, none⟩ = some v) ∧ w.frozen? ⟨g, j, none⟩ = false := by
  obtain ⟨cs, h1, h2, h3⟩ := h
  refine ⟨⟨cs[j], ?_⟩, ?_⟩
  · rw [cell_of_row w g j cs _ (0, 0) h1]
    exact Array.getElem?_eq_getElem (by omega)
  · simp [World.frozen?, h1]
theorem Part.step {w : World} {g n k : Nat} {X : List UInt8} (h : Part w g n k X) (hk : k < n) : Part (w.setCell ⟨g, k, none⟩ (bv (X.getD k 0))) g n (k + 1) X := by
  obtain ⟨cs, h1, h2, h3⟩ := h
  refine ⟨cs.setIfInBounds k (bv (X.getD k 0)), ?_, by simp [h2], fun j hj => ?_⟩
  · simp [World.setCell, Array.getElem?_modify, h1]
  · by_cases e : j = k
    · subst e
      rw [Array.getElem?_setIfInBounds_self_of_lt (by omega)]
    · rw [Array.getElem?_setIfInBounds_ne (by omega)]
      exact h3 j (by omega)
theorem Part.rd {w : World} {g n : Nat} {X : List UInt8} (h : Part w g n n X) (hX : X.length = n) : Rd w (some ⟨g, 0, none⟩) X := fun _ => by
  obtain ⟨cs, h1, h2, h3⟩ := h
  refine ⟨g, 0, rfl, fun j hj => ?_⟩
  rw [Nat.zero_add, cell_of_row w g j cs _ (0, 0) h1]
  exact h3 j (by omega)
def xor3 (a b c : List UInt8) : List UInt8 := List.zipWith (· ^^^ ·) (List.zipWith (· ^^^ ·) a b) c
theorem xor3_at (a b c : List UInt8) (n k : Nat) (h1 : a.length = n) (h2 : b.length = n) (h3 : c.length = n) (hk : k < n) :
    bv ((xor3 a b c).getD k 0) = .int .u8 (bits .xor .u8 (bits .xor .u8 ((a.getD k 0).toNat : Int) ((b.getD k 0).toNat : Int)) ((c.getD k 0).toNat : Int)) := by
  have e : (xor3 a b c).getD k 0 = a.getD k 0 ^^^ b.getD k 0 ^^^ c.getD k 0 := by
    simp [xor3, List.getElem?_zipWith, List.getElem?_eq_getElem (h1 ▸ hk), List.getElem?_eq_getElem (h2 ▸ hk), List.getElem?_eq_getElem (h3 ▸ hk)]
  rw [e]
  generalize a.getD k 0 = x
  generalize b.getD k 0 = y
  generalize c.getD k 0 = z
  have hx := x.toNat_lt
  have hy := y.toNat_lt
  have hz := z.toNat_lt
  have hxy : x.toNat ^^^ y.toNat < 256 := Nat.xor_lt_two_pow (n := 8) hx hy
  rw [u8_xor_nat _ _ hx hy, u8_xor_nat _ _ hxy hz]
  simp [bv, UInt8.toNat_xor]
theorem xor3_len (a b c : List UInt8) (n : Nat) (h1 : a.length = n) (h2 : b.length = n) (h3 : c.length = n) : (xor3 a b c).length = n := by simp [xor3, h1, h2, h3]

theorem lin16 (a b c d : BitVec 16) (h : a ^^^ b ^^^ c = d) : bits .xor .u16 (bits .xor .u16 (a.toNat : Int) (b.toNat : Int)) (c.toNat : Int) = (d.toNat : Int) := by
  have h1 := a.isLt
  have h2 := b.isLt
  have h3 := c.isLt
  have hx : a.toNat ^^^ b.toNat < 65536 := Nat.xor_lt_two_pow (n := 16) h1 h2
  rw [u16_xor_nat _ _ h1 h2, u16_xor_nat _ _ hx h3, ← h]
  simp
theorem lin32 (a b c d : BitVec 32) (h : a ^^^ b ^^^ c = d) : bits .xor .u32 (bits .xor .u32 (a.toNat : Int) (b.toNat : Int)) (c.toNat : Int) = (d.toNat : Int) := by
  have h1 := a.isLt
  have h2 := b.isLt
  have h3 := c.isLt
  have hx : a.toNat ^^^ b.toNat < 4294967296 := Nat.xor_lt_two_pow (n := 32) h1 h2
  rw [u32_xor_nat _ _ h1 h2, u32_xor_nat _ _ hx h3, ← h]
  simp
theorem FcsLinear_loop (A B C : Option Addr) (ca cb cc n : Nat) (la lb lc : List UInt8) (w : World) (hA : Rd w A la) (hB : Rd w B lb) (hC : Rd w C lc) (hn : n ≤ 200) (e1 : Hid (la.length = n)) (e2 : Hid (lb.length = n)) (e3 : Hid (lc.length = n)) :
    Calls Try.prog 6 #[.slice A n ca, .slice B n cb, .slice C n cc] w fun e w' => e = .returned (.bool true) ∧ Below w.heap.size w w' := by
  have hb := aliveW_below w
  obtain ⟨W, hW⟩ : ∃ W, W = laidM (laidM w dg) dg := ⟨_, rfl⟩
  rw [← hW] at hb
  have ha := alive_calls w
  rw [← hW] at ha
  clear hW
  have hmk := fun W => make_run n (by omega) W
  have p0 : Part (W.alloc (.cells (madeCells #[.int .u8 0] n) 5)) W.heap.size n 0 (xor3 la lb lc) := ⟨_, heap_alloc_new W _, by simp [size_madeCells], fun j hj => by omega⟩
  have b0 : Below W.heap.size W (W.alloc (.cells (madeCells #[.int .u8 0] n) 5)) := (Below.refl _ _).alloc (Nat.le_refl _) _
  go_enter Try.func6, Try.ntmps6
  go_wp2_with fail
  refine ha.mono ?_
  rintro e w' ⟨rfl, rfl⟩
  clear ha
  go_wp2
  generalize (W.alloc (.cells (madeCells #[.int .u8 0] n) 5)) = W1 at p0 b0
  clear hmk
  go_loopw [9] (fun i wr => ∃ k : Nat, k ≤ n ∧ i = .int .i64 k ∧ Part wr W.heap.size n k (xor3 la lb lc) ∧ Below W.heap.size W wr) (fun i _ => n - (intOf i).toNat)
  case atStart => exact ⟨0, Nat.zero_le _, rfl, p0, b0⟩
  case round =>
    obtain ⟨k, hk, rfl, hp, hbw⟩ := hrel
    by_cases hlt : k < n
    · have bw := hb.trans (hbw.mono hb.size)
      obtain ⟨ba, oa, rfl, _, hca⟩ := (hA.below bw).at_ (k := k) (by rw [e1.out]; exact hlt)
      obtain ⟨bb, ob, rfl, _, hcb⟩ := (hB.below bw).at_ (k := k) (by rw [e2.out]; exact hlt)
      obtain ⟨bc, oc, rfl, _, hcc⟩ := (hC.below bw).at_ (k := k) (by rw [e3.out]; exact hlt)
      obtain ⟨⟨v, hv⟩, hf⟩ := hp.cell k hlt
      have hx := xor3_at la lb lc n k e1.out e2.out e3.out hlt
      have HX := Lib.hid hx
      clear hx
      generalize hga : la.getD k 0 = xa at hca HX
      generalize hgb : lb.getD k 0 = xb at hcb HX
      generalize hgc : lc.getD k 0 = xc at hcc HX
      clear hga hgb hgc
      unfold bv at hca hcb hcc
      go_wp2
      go_region
      go_wp2
      go_roundw
      case rel =>
        have st := hp.step hlt
        rw [HX.out] at st
        exact ⟨k + 1, by omega, by go_num, st, (hbw.setCell (p := ⟨W.heap.size, k, none⟩) (Nat.le_refl _) _).drew⟩
      case measure => simp [intOf]; omega
    · obtain rfl : k = n := by omega
      have bw := hb.trans (hbw.mono hb.size)
      have hm : k ≤ maxLen := by unfold maxLen; omega
      have eX := xor3_len la lb lc k e1.out e2.out e3.out
      have rX := hp.rd eX
      have s1 := short_calls A ca la wr (hA.below bw) (by rw [e1.out]; exact hm)
      have s2 := short_calls B cb lb wr (hB.below bw) (by rw [e2.out]; exact hm)
      have s3 := short_calls C cc lc wr (hC.below bw) (by rw [e3.out]; exact hm)
      have s4 := short_calls (some ⟨W.heap.size, 0, none⟩) k (xor3 la lb lc) wr rX (by rw [eX]; exact hm)
      have t1 := long_calls A ca la wr (hA.below bw) (by rw [e1.out]; exact hm)
      have t2 := long_calls B cb lb wr (hB.below bw) (by rw [e2.out]; exact hm)
      have t3 := long_calls C cc lc wr (hC.below bw) (by rw [e3.out]; exact hm)
      have t4 := long_calls (some ⟨W.heap.size, 0, none⟩) k (xor3 la lb lc) wr rX (by rw [eX]; exact hm)
      rw [e1.out] at s1 t1
      rw [e2.out] at s2 t2
      rw [e3.out] at s3 t3
      rw [eX] at s4 t4
      have h16 := lin16 _ _ _ _ (crc_linear p16 la lb lc (by rw [e1.out, e2.out]) (by rw [e1.out, e3.out]))
      have h32 := lin32 _ _ _ _ (crc_linear p32 la lb lc (by rw [e1.out, e2.out]) (by rw [e1.out, e3.out]))
      have e16 : crc p16 (List.zipWith (· ^^^ ·) (List.zipWith (· ^^^ ·) la lb) lc) = crc p16 (xor3 la lb lc) := rfl
      have e32 : crc p32 (List.zipWith (· ^^^ ·) (List.zipWith (· ^^^ ·) la lb) lc) = crc p32 (xor3 la lb lc) := rfl
      rw [e16] at h16
      rw [e32] at h32
      unfold b16 at s1 s2 s3 s4
      unfold b32 at t1 t2 t3 t4
      clear e16 e32 eX rX
      generalize crc p16 la = x1 at s1 h16
      generalize crc p16 lb = x2 at s2 h16
      generalize crc p16 lc = x3 at s3 h16
      generalize crc p16 (xor3 la lb lc) = x4 at s4 h16
      generalize crc p32 la = y1 at t1 h32
      generalize crc p32 lb = y2 at t2 h32
      generalize crc p32 lc = y3 at t3 h32
      generalize crc p32 (xor3 la lb lc) = y4 at t4 h32
      go_wp2_with fail
      refine s1.mono ?_
      rintro e w' ⟨rfl, rfl⟩
      go_wp2_with fail
      refine s2.mono ?_
      rintro e w' ⟨rfl, rfl⟩
      go_wp2_with fail
      refine s3.mono ?_
      rintro e w' ⟨rfl, rfl⟩
      go_wp2_with fail
      refine s4.mono ?_
      rintro e w' ⟨rfl, rfl⟩
      go_wp2_with fail
      refine t1.mono ?_
      rintro e w' ⟨rfl, rfl⟩
      go_wp2_with fail
      refine t2.mono ?_
      rintro e w' ⟨rfl, rfl⟩
      go_wp2_with fail
      refine t3.mono ?_
      rintro e w' ⟨rfl, rfl⟩
      go_wp2_with fail
      refine t4.mono ?_
      rintro e w' ⟨rfl, rfl⟩
      go_wp2
      go_ret
      exact ⟨rfl, bw⟩
theorem FcsLinear_far1 (A B C : Option Addr) (n m p ca cb cc : Nat) (w : World) (hl : 200 < n) (hm : n ≤ 9223372036854775807) :
    Calls Try.prog 6 #[.slice A n ca, .slice B m cb, .slice C p cc] w fun e w' => e = .returned (.bool true) ∧ Below w.heap.size w w' := by
  have hb := aliveW_below w
  go_enter Try.func6, Try.ntmps6
  go_wp2_with fail
  refine (alive_calls w).mono ?_
  rintro e w' ⟨rfl, rfl⟩
  go_wp2
  go_ret
  exact ⟨rfl, hb⟩
theorem FcsLinear_far2 (A B C : Option Addr) (n m p ca cb cc : Nat) (w : World) (hl : n ≤ 200) (hm : m ≠ n) :
    Calls Try.prog 6 #[.slice A n ca, .slice B m cb, .slice C p cc] w fun e w' => e = .returned (.bool true) ∧ Below w.heap.size w w' := by
  have hb := aliveW_below w
  have h1 : ((m : Int) != (n : Int)) = true := by simp; omega
  have h2 : (m != n) = true := by simp; omega
  go_enter Try.func6, Try.ntmps6
  go_wp2_with fail
  refine (alive_calls w).mono ?_
  rintro e w' ⟨rfl, rfl⟩
  go_wp2
  go_ret
  exact ⟨rfl, hb⟩
theorem FcsLinear_far3 (A B C : Option Addr) (n p ca cb cc : Nat) (w : World) (hl : n ≤ 200) (hm : p ≠ n) :
    Calls Try.prog 6 #[.slice A n ca, .slice B n cb, .slice C p cc] w fun e w' => e = .returned (.bool true) ∧ Below w.heap.size w w' := by
  have hb := aliveW_below w
  have h1 : ((p : Int) != (n : Int)) = true := by simp; omega
  have h2 : (p != n) = true := by simp; omega
  go_enter Try.func6, Try.ntmps6
  go_wp2_with fail
  refine (alive_calls w).mono ?_
  rintro e w' ⟨rfl, rfl⟩
  go_wp2
  go_ret
  exact ⟨rfl, hb⟩
theorem FcsLinear_walk (a0 : Option Addr) (len0 cap0 : Nat) (z0 : List Int) (a1 : Option Addr) (len1 cap1 : Nat) (z1 : List Int) (a2 : Option Addr) (len2 cap2 : Nat) (z2 : List Int) (w : World)
    (h0 : (a0 = none ∧ len0 = 0 ∧ cap0 = 0 ∧ z0 = []) ∨ ∃ x, a0 = some x ∧ len0 ≤ cap0 ∧ cap0 ≤ maxLen ∧ z0.length = cap0 ∧ (∀ i, i < z0.length → w.cell? (x.add i) = some (.int .u8 (z0.getD i 0))) ∧ ∀ n ∈ z0, (Lit.int .u8 n).wf = true)
    (h1 : (a1 = none ∧ len1 = 0 ∧ cap1 = 0 ∧ z1 = []) ∨ ∃ x, a1 = some x ∧ len1 ≤ cap1 ∧ cap1 ≤ maxLen ∧ z1.length = cap1 ∧ (∀ i, i < z1.length → w.cell? (x.add i) = some (.int .u8 (z1.getD i 0))) ∧ ∀ n ∈ z1, (Lit.int .u8 n).wf = true)
    (h2 : (a2 = none ∧ len2 = 0 ∧ cap2 = 0 ∧ z2 = []) ∨ ∃ x, a2 = some x ∧ len2 ≤ cap2 ∧ cap2 ≤ maxLen ∧ z2.length = cap2 ∧ (∀ i, i < z2.length → w.cell? (x.add i) = some (.int .u8 (z2.getD i 0))) ∧ ∀ n ∈ z2, (Lit.int .u8 n).wf = true) :
    Calls Try.prog 6 #[.slice a0 len0 cap0, .slice a1 len1 cap1, .slice a2 len2 cap2] w fun e w' => e = .returned (.bool true) ∧ Below w.heap.size w w' := by
  obtain ⟨l0, e0, hc0, hm0, hr0⟩ := Rd.of_row h0
  obtain ⟨l1, e1, hc1, hm1, hr1⟩ := Rd.of_row h1
  obtain ⟨l2, e2, hc2, hm2, hr2⟩ := Rd.of_row h2
  by_cases hl : len0 ≤ 200
  · by_cases h01 : len1 = len0
    · subst h01
      by_cases h02 : len2 = len1
      · subst h02
        exact FcsLinear_loop a0 a1 a2 cap0 cap1 cap2 _ l0 l1 l2 w hr0 hr1 hr2 hl e0 e1 e2
      · exact FcsLinear_far3 a0 a1 a2 _ len2 cap0 cap1 cap2 w hl h02
    · exact FcsLinear_far2 a0 a1 a2 len0 len1 len2 cap0 cap1 cap2 w hl h01
  · exact FcsLinear_far1 a0 a1 a2 len0 len1 len2 cap0 cap1 cap2 w (by omega) (by unfold maxLen at hm0; omega)
end Go.Proofs.Ytjgpnhpecoijeaa

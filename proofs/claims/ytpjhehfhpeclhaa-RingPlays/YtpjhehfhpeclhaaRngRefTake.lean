/- Take of a ring of the reference. Condition: the number is one of 64 bits. -/
import Derived.Test.YtpjhehfhpeclhaaRngRefAdd
namespace Go.Proofs.Ytpjhehfhpeclhaa
open Go.RowKit
set_option linter.unusedVariables false

theorem tk_stop {n : Int} (h : n ≤ 0) (l : List (List UInt8)) (b : Bool) : tk l (lim n l.flatten.length) b = (l, b) ∧ l.flatten.take (lim n l.flatten.length) = [] := by
  have h0 : lim n l.flatten.length = 0 := by unfold lim; omega
  rw [h0]
  exact ⟨tk_zero l b, List.take_zero⟩
theorem tk_whole {x : List UInt8} {n : Int} (hx : x ≠ []) (h : (x.length : Int) ≤ n) (l : List (List UInt8)) (b : Bool) :
    tk (x :: l) (lim n (x :: l).flatten.length) b = tk l (lim (n - x.length) l.flatten.length) false ∧ (x :: l).flatten.take (lim n (x :: l).flatten.length) = x ++ l.flatten.take (lim (n - x.length) l.flatten.length) := by
  have hp := List.length_pos_iff.2 hx
  have e : lim n (x :: l).flatten.length = x.length + lim (n - x.length) l.flatten.length := by
    rw [List.flatten_cons, List.length_append]
    unfold lim
    omega
  rw [e]
  constructor
  · have h1 : ¬ x.length + lim (n - x.length) l.flatten.length = 0 := by omega
    have h2 : ¬ x.length + lim (n - x.length) l.flatten.length < x.length := by omega
    show (if x.length + lim (n - x.length) l.flatten.length = 0 then (x :: l, b) else if x.length + lim (n - x.length) l.flatten.length < x.length then (x.drop (x.length + lim (n - x.length) l.flatten.length) :: l, true) else tk l (x.length + lim (n - x.length) l.flatten.length - x.length) false) = _
    rw [if_neg h1, if_neg h2, Nat.add_sub_cancel_left]
  · rw [List.flatten_cons, List.take_append, List.take_of_length_le (by omega), Nat.add_sub_cancel_left]
theorem tk_some {x : List UInt8} {k : Nat} (hk : 0 < k) (h : k < x.length) (l : List (List UInt8)) (b : Bool) :
    tk (x :: l) (lim (k : Int) (x :: l).flatten.length) b = (x.drop k :: l, true) ∧ (x :: l).flatten.take (lim (k : Int) (x :: l).flatten.length) = x.take k := by
  have e : lim (k : Int) (x :: l).flatten.length = k := by
    rw [List.flatten_cons, List.length_append]
    exact lim_nat (by omega)
  rw [e]
  constructor
  · show (if k = 0 then (x :: l, b) else if k < x.length then (x.drop k :: l, true) else tk l (k - x.length) false) = _
    rw [if_neg (by omega), if_pos h]
  · rw [List.flatten_cons, List.take_append, show k - x.length = 0 by omega, List.take_zero, List.append_nil]

section
variable {w : World} {F : Nat → Prop} {b R D : Nat} {l : List (List UInt8)} {beg : Bool} {s : Rng} {x : List UInt8}
/-- what a round looks at, and what its stores leave: a part of the first piece, or all of it -/
theorem round_mem (h : RawR w F b R (x :: l) beg D) (hx : x ≠ []) : ∃ g off c gB offB d, (x.length ≤ d ∧ d ≤ maxLen ∧ l.length + 1 ≤ c ∧ c ≤ maxLen ∧ ¬ b = g) ∧ ∀ (w1 : World) (G : Nat → Prop), Only G w w1 → (∀ k, F k → ¬ G k) →
    (w1.cell? ⟨b, 1, none⟩ = some (.slice (some ⟨g, off, none⟩) (l.length + 1) c) ∧ w1.cell? ⟨g, off, none⟩ = some (.slice (some ⟨gB, offB, none⟩) x.length d) ∧ w1.cell? ⟨b, 2, none⟩ = some (.bool beg) ∧ w1.frozen? ⟨b, 1, none⟩ = false ∧ w1.frozen? ⟨b, 2, none⟩ = false ∧ w1.frozen? ⟨g, off, none⟩ = false ∧ Rd w1 (some ⟨gB, offB, none⟩) x) ∧
    (∀ k, k < x.length → RawR ((w1.setCell ⟨g, off, none⟩ (.slice (some ⟨gB, offB + k, none⟩) (x.length - k) (d - k))).setCell ⟨b, 2, none⟩ (.bool true)) F b R (x.drop k :: l) true D ∧ Only F w1 ((w1.setCell ⟨g, off, none⟩ (.slice (some ⟨gB, offB + k, none⟩) (x.length - k) (d - k))).setCell ⟨b, 2, none⟩ (.bool true))) ∧
    (∀ v, RawR ((((w1.setCell ⟨g, off, none⟩ v).setCell ⟨b, 2, none⟩ (.bool true)).setCell ⟨b, 1, none⟩ (.slice (if c = 1 then some ⟨g, off, none⟩ else some ⟨g, off + 1, none⟩) l.length (c - 1))).setCell ⟨b, 2, none⟩ (.bool false)) F b R l false D ∧
      Only F w1 ((((w1.setCell ⟨g, off, none⟩ v).setCell ⟨b, 2, none⟩ (.bool true)).setCell ⟨b, 1, none⟩ (.slice (if c = 1 then some ⟨g, off, none⟩ else some ⟨g, off + 1, none⟩) l.length (c - 1))).setCell ⟨b, 2, none⟩ (.bool false))) := by
  obtain ⟨A, c, vs, h1, h2, h3, h4, h5, h6⟩ := h
  obtain ⟨v0, us, rfl, ⟨B, d, rfl, hB, hBF⟩, hus⟩ := h3.cons_inv
  obtain ⟨g, off, rfl, k0, z0, hset⟩ := h2.first
  obtain ⟨gB, offB, rfl, _⟩ := hB.rd hx
  have hgb : ¬ b = g := fun e => row_apart h1 h2 (by rw [e]; rfl)
  have hlc := h2.1
  have hul := hus.len
  simp at hlc
  refine ⟨g, off, c, gB, offB, d, ⟨hB.1, hB.2.1, by omega, h2.2.1, hgb⟩, fun w1 G on hd => ?_⟩
  have hb1 := (on.block b (h6 b h4) (hd b h4)).trans h1
  have m1 := h2.only on (fun k hk => hd k (h5 k hk))
  have p1 := hB.only on (fun k hk => hd k (hBF k hk))
  have u1 : Pcs w1 F us l := Pcs.only on (fun k hk _ => hd k hk) (fun _ h => h) hus
  have lt1 : ∀ k, F k → k < w1.heap.size := fun k hk => Nat.lt_of_lt_of_le (h6 k hk) on.size
  obtain ⟨g', off', e', k1, z1, hset1⟩ := m1.first
  injection e' with e'
  injection e' with e1 e2
  subst e1 e2
  have hgF : F g := h5 g rfl
  have os := fun v => only_set w1 ⟨g, off, none⟩ v
  have rowG : ∀ k, F k → (∃ cur, w1.heap[k]? = some (.cells cur 5 (0, 0))) → ¬ k = g := fun k hk ht e => pcs_row m1 k hk ht (by rw [e]; rfl)
  have hb2 := fun v => ((os v).block b (lt1 b h4) hgb).trans hb1
  have oF := fun v => (os v).mono (G := F) (fun k _ e => by rw [e]; exact hgF)
  refine ⟨⟨(qcell hb1).2.1, k1, (qcell hb1).2.2.1, frozen_of_row w1 b 1 _ _ hb1, frozen_of_row w1 b 2 _ _ hb1, z1, p1.rd⟩, fun k hk => ?_, fun v => ?_⟩
  · have pk : Pc w1 F (.slice (some ⟨gB, offB + k, none⟩) (x.length - k) (d - k)) (x.drop k) := ⟨_, _, by rw [List.length_drop], p1.rest (by omega) _ (.inr ⟨gB, offB, rfl, rfl⟩), fun q hq => hBF q hq⟩
    have raw : RawR (w1.setCell ⟨g, off, none⟩ (.slice (some ⟨gB, offB + k, none⟩) (x.length - k) (d - k))) F b R (x.drop k :: l) beg D :=
      ⟨_, c, _, hb2 _, hset1 _, ⟨pk.only (os _) rowG (fun _ h => h), Pcs.only (os _) rowG (fun _ h => h) u1⟩, h4, h5, fun q hq => Nat.lt_of_lt_of_le (lt1 q hq) (os _).size⟩
    exact ⟨(raw.setB true).2.1, (oF _).trans (raw.setB true).2.2 (fun _ _ h => h)⟩
  · have hb3 := heap_setCell_same _ b 2 _ _ (.bool true) (hb2 v)
    have ob := only_set (w1.setCell ⟨g, off, none⟩ v) ⟨b, 2, none⟩ (.bool true)
    have m2 := (hset1 v).only ob (fun k hk e => row_apart (hb2 v) (hset1 v) (by rw [hk, e]))
    have u2 : Pcs (w1.setCell ⟨g, off, none⟩ v) F us l := Pcs.only (os v) rowG (fun _ h => h) u1
    have u3 : Pcs ((w1.setCell ⟨g, off, none⟩ v).setCell ⟨b, 2, none⟩ (.bool true)) F us l := Pcs.only ob (pcs_apart (hb2 v)) (fun _ h => h) u2
    have lt3 : ∀ k, F k → k < ((w1.setCell ⟨g, off, none⟩ v).setCell ⟨b, 2, none⟩ (.bool true)).heap.size := fun k hk => Nat.lt_of_lt_of_le (lt1 k hk) (Nat.le_trans (os v).size ob.size)
    obtain ⟨g', off', e', _, _, r0, r1⟩ := m2.rest
    injection e' with e'
    injection e' with e1 e2
    subst e1 e2
    have m3 : MidV 28 ((w1.setCell ⟨g, off, none⟩ v).setCell ⟨b, 2, none⟩ (.bool true)) (if c = 1 then some ⟨g, off, none⟩ else some ⟨g, off + 1, none⟩) (c - 1) us := by
      split
      · next e => have := r0 e; rw [e]; exact this
      · exact r1
    obtain ⟨_, raw, o4⟩ := rawR_setL (F := F) (l' := l) hb3 h4 lt3 m3 (fun k hk => by split at hk <;> exact h5 k hk) u3
    exact ⟨(raw.setB false).2.1, ((oF v).trans (ob.mono (G := F) (fun k _ e => by rw [e]; exact h4)) (fun _ _ h => h)).trans (o4.trans (raw.setB false).2.2 (fun _ _ h => h)) (fun _ _ h => h)⟩
end
end Go.Proofs.Ytpjhehfhpeclhaa

/- Words for memory: a slice of bytes that reads as a list, nil and empty ones included; what keeps it. No condition. -/
import Derived.Test.YtbalhpffdgbdgaaRows
import Derived.WalkKit
import Derived.WalkLawsBesides
import Derived.ProofKit
import Derived.OpenShut
import Derived.Below
import Derived.Lib.Hide
import Derived.Deep.Draws
import Derived.Laws.OwnMore
import Derived.Laws.Rows
namespace Go.Proofs.Ytbalhpffdgbdgaa
open Go.RowKit
set_option linter.unusedVariables false

theorem ret_int {k : IntKind} {a b : Int} (h : a = b) : Ending.returned (.int k a) = .returned (.int k b) := by rw [h]
theorem val_int {k : IntKind} {a b : Int} (h : a = b) : Value.int k a = .int k b := by rw [h]
/-- the value of a byte -/
def bv (c : UInt8) : Value := .int .u8 (c.toNat : Int)

/-- The slice value at A, of l.length elements, reads as the bytes l. -/
def Rd (w : World) (A : Option Addr) (l : List UInt8) : Prop :=
  l ≠ [] → ∃ b off, A = some ⟨b, off, none⟩ ∧ ∀ j, j < l.length → w.cell? ⟨b, off + j, none⟩ = some (bv (l.getD j 0))

theorem Rd.nil (w : World) (A : Option Addr) : Rd w A [] := fun h => absurd rfl h
theorem Rd.at_ {w : World} {A : Option Addr} {l : List UInt8} (h : Rd w A l) {k : Nat} (hk : k < l.length) :
    ∃ b off, A = some ⟨b, off, none⟩ ∧ b < w.heap.size ∧ w.cell? ⟨b, off + k, none⟩ = some (bv (l.getD k 0)) := by
  obtain ⟨b, off, e, hc⟩ := h (by rintro rfl; simp at hk)
  exact ⟨b, off, e, World.block_lt_of_cell? w _ (hc k hk), hc k hk⟩
theorem Rd.keep {w w' : World} {A : Option Addr} {l : List UInt8} (h : Rd w A l) (hk : ∀ p : Addr, p.block < w.heap.size → w'.cell? p = w.cell? p) : Rd w' A l := fun hl => by
  obtain ⟨b, off, e, hc⟩ := h hl
  exact ⟨b, off, e, fun j hj => (hk _ (World.block_lt_of_cell? w _ (hc j hj))).trans (hc j hj)⟩
theorem Rd.below {w w' : World} {A : Option Addr} {l : List UInt8} (h : Rd w A l) (hb : Below w.heap.size w w') : Rd w' A l := h.keep fun _ hp => hb.cell hp
theorem Rd.drewN {w : World} {A : Option Addr} {l : List UInt8} (h : Rd w A l) (n : Nat) : Rd (w.drewN n) A l := h
theorem Rd.drew {w : World} {A : Option Addr} {l : List UInt8} (h : Rd w A l) : Rd w.drew A l := h
theorem Rd.alloc {w : World} {A : Option Addr} {l : List UInt8} (h : Rd w A l) (o : Obj) : Rd (w.alloc o) A l := h.below ((Below.refl _ _).alloc (Nat.le_refl _) _)
/-- the front -/
theorem Rd.front {w : World} {A : Option Addr} {l : List UInt8} (h : Rd w A l) (k : Nat) : Rd w A (l.take k) := fun hl => by
  obtain ⟨b, off, e, hc⟩ := h (by rintro rfl; simp at hl)
  refine ⟨b, off, e, fun j hj => ?_⟩
  simp only [List.length_take] at hj
  rw [hc j (by omega)]
  simp [show j < k by omega]
/-- the rest, as 's[k:]' spells its address -/
theorem Rd.rest {w : World} {A : Option Addr} {l : List UInt8} (h : Rd w A l) (k : Nat) (B : Option Addr) (hB : k < l.length → ∀ b off, A = some ⟨b, off, none⟩ → B = some ⟨b, off + k, none⟩) : Rd w B (l.drop k) := fun hl => by
  obtain ⟨b, off, e, hc⟩ := h (by rintro rfl; simp at hl)
  have hk : k < l.length := by
    rcases Nat.lt_or_ge k l.length with h | h
    · exact h
    · exact absurd (List.drop_eq_nil_of_le h) hl
  refine ⟨b, off + k, hB hk b off e, fun j hj => ?_⟩
  simp only [List.length_drop] at hj
  have := hc (k + j) (by omega)
  rw [← Nat.add_assoc] at this
  rw [this]
  simp
/-- a row of the call's own reads so -/
theorem Rd.of_own {w : World} {base : Nat} {e : TypeId} {A : Option Addr} {n c : Nat} {l : List UInt8} (h : w.ownsRow base e 1 (.slice A n c) n (l.map bv)) : Rd w A l := fun hl => by
  have hlen : l.length = n := by simpa using h.1
  have hn : 0 < n := by rw [← hlen]; exact List.length_pos_iff.mpr hl
  rcases h.2 with ⟨_, h0⟩ | ⟨g, cap, cur, hv, _, hh, hnc, _, hsz, hcur⟩
  · omega
  have hA : A = some ⟨g, 0, none⟩ := by injection hv
  subst hA
  refine ⟨g, 0, rfl, fun j hj => ?_⟩
  rw [Nat.zero_add, cell_of_row w g j cur e (0, 0) hh]
  have h1 := congrArg (fun t => t[j]?) hcur
  simp only [List.getElem?_take, Nat.mul_one, show j < n by omega, if_true, List.getElem?_map, List.getElem?_eq_getElem hj] at h1
  rw [← Array.getElem?_toList, h1]
  simp [List.getElem?_eq_getElem hj]
/-- a slice that came in -/
theorem Rd.of_row {w : World} {a : Option Addr} {len cap : Nat} {zs : List Int}
    (h : (a = none ∧ len = 0 ∧ cap = 0 ∧ zs = []) ∨ ∃ x, a = some x ∧ len ≤ cap ∧ cap ≤ maxLen ∧ zs.length = cap ∧ (∀ i, i < zs.length → w.cell? (x.add i) = some (.int .u8 (zs.getD i 0))) ∧ ∀ n ∈ zs, (Lit.int .u8 n).wf = true) :
    ∃ l : List UInt8, l.length = len ∧ len ≤ cap ∧ cap ≤ maxLen ∧ Rd w a l := by
  rcases h with ⟨rfl, rfl, rfl, rfl⟩ | ⟨x, rfl, hl, hm, hz, hc, hw⟩
  · exact ⟨[], rfl, Nat.le_refl _, by decide, Rd.nil _ _⟩
  · refine ⟨(zs.take len).map (fun z => UInt8.ofNat z.toNat), by simp; omega, hl, hm, fun hne => ?_⟩
    have hpos : 0 < zs.length := by
      rcases Nat.eq_zero_or_pos zs.length with h0 | h0
      · exact absurd (by simp [List.eq_nil_of_length_eq_zero h0]) hne
      · exact h0
    obtain ⟨b, off, rfl, hcell⟩ := ints_at hc hpos
    refine ⟨b, off, rfl, fun j hj => ?_⟩
    simp at hj
    have hjz : j < zs.length := by omega
    rw [hcell j hjz]
    have hwf := hw zs[j] (List.getElem_mem hjz)
    have hbd := bounds_u8 hwf
    simp [bv, hj, hjz]
    omega
end Go.Proofs.Ytbalhpffdgbdgaa

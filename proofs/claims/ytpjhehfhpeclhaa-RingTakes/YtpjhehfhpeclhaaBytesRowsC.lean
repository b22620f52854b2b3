/- A slice of slices of bytes as it comes in: what it reads as, and what room its rows have. No condition. -/
import Derived.Test.YtpjhehfhpeclhaaBytesKin
import Derived.Deep.Slices
namespace Go.Proofs.Ytpjhehfhpeclhaa
open Go.RowKit Go.ChangeShapes Go.WideShapes Go.Deep
set_option linter.unusedVariables false

/-- The slice value at A, of ls.length elements, reads as the rows ls. -/
def RdR (w : World) (A : Option Addr) (ls : List (List UInt8)) : Prop :=
  ls ≠ [] → ∃ b off, A = some ⟨b, off, none⟩ ∧ ∀ j, j < ls.length → ∃ B c, w.cell? ⟨b, off + j, none⟩ = some (.slice B (ls.getD j []).length c) ∧ Rd w B (ls.getD j []) ∧ ((ls.getD j []).length ≤ c ∧ c ≤ maxLen)
theorem RdR.at_ {w : World} {A : Option Addr} {ls : List (List UInt8)} (h : RdR w A ls) {k : Nat} (hk : k < ls.length) :
    ∃ b off B c, A = some ⟨b, off, none⟩ ∧ b < w.heap.size ∧ w.cell? ⟨b, off + k, none⟩ = some (.slice B (ls.getD k []).length c) ∧ Rd w B (ls.getD k []) ∧ ((ls.getD k []).length ≤ c ∧ c ≤ maxLen) := by
  obtain ⟨b, off, e, hc⟩ := h (by rintro rfl; simp at hk)
  obtain ⟨B, c, h1, h2, h3⟩ := hc k hk
  exact ⟨b, off, B, c, e, World.block_lt_of_cell? w _ h1, h1, h2, h3⟩
theorem RdR.below {w w' : World} {A : Option Addr} {ls : List (List UInt8)} (h : RdR w A ls) (hb : Below w.heap.size w w') : RdR w' A ls := fun hl => by
  obtain ⟨b, off, e, hc⟩ := h hl
  refine ⟨b, off, e, fun j hj => ?_⟩
  obtain ⟨B, c, h1, h2, h3⟩ := hc j hj
  exact ⟨B, c, (hb.cell (World.block_lt_of_cell? w _ h1)).trans h1, h2.below hb, h3⟩
/-- what a slice of slices of bytes that came in is told as -/
def IsRows (w : World) (a : Option Addr) (len cap : Nat) : Prop := ∃ ls : List (List UInt8), ls.length = len ∧ len ≤ cap ∧ cap ≤ maxLen ∧ RdR w a ls

theorem isRows_of {H : Type} {enc : TypeId × Value → H} {w : World} {base : Nat} {held : Bool} {fuel : Nat} {a : Option Addr} {len cap : Nat} {x : DataW H × List MemPlace}
    (h : DataW.trod enc Try.prog w base (fun _ => true) held fuel 35 (Value.slice a len cap).cells.toList = some x) : IsRows w a len cap := by
  rcases open_slice1 Try.underlying35 (by kernel_rfl) h with ⟨hcs, _⟩ | ⟨ad, l, c, m, n, V, D, Pl, hcs, _, hl, hm, hmm, _, hV⟩
  · simp [Value.cells] at hcs
    obtain ⟨rfl, rfl, rfl⟩ := hcs
    exact ⟨[], rfl, Nat.le_refl _, by decide, fun h => absurd rfl h⟩
  · simp [Value.cells] at hcs
    obtain ⟨rfl, rfl, rfl⟩ := hcs
    have hmm : m = cap := by simpa using hmm
    have each : ∀ i, i < len → ∃ r : List UInt8, ∃ B c, w.cell? (ad.add i) = some (.slice B r.length c) ∧ Rd w B r ∧ (r.length ≤ c ∧ c ≤ maxLen) := by
      intro i hi
      obtain ⟨h1, h2⟩ := hV i (by omega)
      rcases open_ints Try.underlying28 Try.underlying5 (by kernel_rfl) h2 with ⟨hcs, _⟩ | ⟨x, l, c, zs, hcs, _, hl, hm, hz, _, hcell, hwz⟩
      · injection hcs with hcs
        exact ⟨[], none, 0, by rw [h1, hcs]; rfl, Rd.nil _ _, by decide, by decide⟩
      · injection hcs with hcs
        obtain ⟨r, hr1, hr2, hr3, hr4⟩ := Rd.of_row (w := w) (a := some x) (len := l) (cap := c) (zs := zs) (.inr ⟨x, rfl, hl, hm, by simpa using hz, hcell, hwz⟩)
        exact ⟨r, some x, c, by rw [h1, hcs, hr1], hr4, by omega, hr3⟩
    obtain ⟨R, hR⟩ := choose_lt (α := List UInt8) (p := fun i r => ∃ B c, w.cell? (ad.add i) = some (.slice B r.length c) ∧ Rd w B r ∧ (r.length ≤ c ∧ c ≤ maxLen)) each
    refine ⟨(List.range len).map R, by simp, hl, hm, fun hne => ?_⟩
    have hp : 0 < len := by
      rcases Nat.eq_zero_or_pos len with h | h
      · subst h; simp at hne
      · exact h
    obtain ⟨b, off, spot⟩ := ad
    obtain ⟨B0, c0, hc0, _⟩ := hR 0 hp
    have hspot : spot = none := by simpa [Addr.add] using World.cell?_spot hc0
    subst hspot
    refine ⟨b, off, rfl, fun j hj => ?_⟩
    simp at hj
    obtain ⟨B, c, h1, h2, h3⟩ := hR j hj
    have hg : ((List.range len).map R).getD j [] = R j := by simp [hj]
    rw [hg]
    exact ⟨B, c, by rw [← Go.WideShapes.add_plain]; exact h1, h2, h3⟩
end Go.Proofs.Ytpjhehfhpeclhaa

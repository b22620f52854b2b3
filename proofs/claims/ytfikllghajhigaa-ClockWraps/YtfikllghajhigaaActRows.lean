/- A slice of calls (structs of three ints) that comes in: what it reads as. No condition. -/
import Derived.Test.YtfikllghajhigaaMemOnly
import Derived.Deep.Slices
namespace Go.Proofs.Ytfikllghajhigaa
open Go.RowKit Go.ChangeShapes Go.WideShapes Go.Deep
set_option linter.unusedVariables false

/-- a call: its way, its timer, its number -/
abbrev Act3 := Int × Int × Int
/-- The slice at A reads as the calls ls. -/
def RdA (w : World) (A : Option Addr) (ls : List Act3) : Prop :=
  ls ≠ [] → ∃ b off, A = some ⟨b, off, none⟩ ∧ ∀ j, j < ls.length → w.cell? ⟨b, off + j * 3, none⟩ = some (.int .i64 (ls.getD j (0, 0, 0)).1) ∧ w.cell? ⟨b, off + j * 3 + 1, none⟩ = some (.int .i64 (ls.getD j (0, 0, 0)).2.1) ∧ w.cell? ⟨b, off + j * 3 + 2, none⟩ = some (.int .i64 (ls.getD j (0, 0, 0)).2.2)
theorem RdA.at_ {w : World} {A : Option Addr} {ls : List Act3} (h : RdA w A ls) {j : Nat} (hj : j < ls.length) :
    ∃ b off, A = some ⟨b, off, none⟩ ∧ b < w.heap.size ∧ w.cell? ⟨b, off + j * 3, none⟩ = some (.int .i64 (ls.getD j (0, 0, 0)).1) ∧ w.cell? ⟨b, off + j * 3 + 1, none⟩ = some (.int .i64 (ls.getD j (0, 0, 0)).2.1) ∧ w.cell? ⟨b, off + j * 3 + 2, none⟩ = some (.int .i64 (ls.getD j (0, 0, 0)).2.2) := by
  obtain ⟨b, off, e, hc⟩ := h (by rintro rfl; simp at hj)
  exact ⟨b, off, e, World.block_lt_of_cell? w _ (hc j hj).1, hc j hj⟩
/-- what a slice of calls that came in is told as -/
def IsActs (w : World) (a : Option Addr) (len cap : Nat) : Prop := ∃ ls : List Act3, ls.length = len ∧ len ≤ cap ∧ cap ≤ maxLen ∧ RdA w a ls
theorem isActs_of {H : Type} {enc : TypeId × Value → H} {w : World} {base : Nat} {held : Bool} {fuel : Nat} {a : Option Addr} {len cap : Nat} {x : DataW H × List MemPlace}
    (h : DataW.trod enc Try.prog w base (fun _ => true) held fuel 23 (Value.slice a len cap).cells.toList = some x) : IsActs w a len cap := by
  rcases open_slice Try.underlying23 h with ⟨hcs, _⟩ | ⟨ad, l, c, m, n, D, Pl, hcs, _, hl, hm, hmm, _, hx⟩
  · simp [Value.cells] at hcs
    obtain ⟨rfl, rfl, rfl⟩ := hcs
    exact ⟨[], rfl, Nat.le_refl _, by decide, fun h => absurd rfl h⟩
  · simp [Value.cells] at hcs
    obtain ⟨rfl, rfl, rfl⟩ := hcs
    have hm' : m = cap := by rw [hmm]; rfl
    subst hm'
    have ce : Try.prog.cellsOf 30 = 3 := by kernel_rfl
    have ci : Try.prog.cellsOf 3 = 1 := by kernel_rfl
    have each : ∀ i, i < m → ∃ q : Act3, w.cell? (ad.add (i * 3)) = some (.int .i64 q.1) ∧ w.cell? (ad.add (i * 3 + 1)) = some (.int .i64 q.2.1) ∧ w.cell? (ad.add (i * 3 + 2)) = some (.int .i64 q.2.2) := by
      intro i hi
      obtain ⟨cs', h1, h2⟩ := hx i hi
      rw [ce] at h1
      obtain ⟨_, hlen, hcell⟩ := World.cells?_some h1
      obtain ⟨xs, k, hk, hxy, _, hxl, hf⟩ := DataW.trod_struct Try.underlying30 h2
      match xs, hxl, cs', hlen with
      | [y0, y1, y2], _, [v0, v1, v2], _ =>
        have g0 := hf 0 _ rfl
        have g1 := hf 1 _ rfl
        have g2 := hf 2 _ rfl
        simp [ci] at g0 g1 g2
        obtain ⟨n0, e0, _⟩ := DataW.trod_int Try.underlying3 g0
        obtain ⟨n1, e1, _⟩ := DataW.trod_int Try.underlying3 g1
        obtain ⟨n2, e2, _⟩ := DataW.trod_int Try.underlying3 g2
        have d0 := hcell 0 (by omega)
        have d1 := hcell 1 (by omega)
        have d2 := hcell 2 (by omega)
        rw [add_add] at d0 d1 d2
        simp at e0 e1 e2
        subst e0 e1 e2
        exact ⟨(n0, n1, n2), by simpa using d0, by simpa using d1, by simpa using d2⟩
    obtain ⟨q, hq⟩ := choose_lt each
    refine ⟨(List.range len).map q, by simp, hl, hm, fun hne => ?_⟩
    have hp : 0 < len := by
      rcases Nat.eq_zero_or_pos len with h | h
      · subst h; simp at hne
      · exact h
    obtain ⟨b, off, spot⟩ := ad
    have hc0 := (hq 0 (by omega)).1
    have hspot : spot = none := by simpa [Addr.add] using World.cell?_spot hc0
    subst hspot
    refine ⟨b, off, rfl, fun j hj => ?_⟩
    simp at hj
    have hg : ((List.range len).map q).getD j (0, 0, 0) = q j := by simp [hj]
    rw [hg]
    have := hq j (by omega)
    rw [add_plain, add_plain, add_plain] at this
    simpa [Nat.add_assoc] using this
end Go.Proofs.Ytfikllghajhigaa

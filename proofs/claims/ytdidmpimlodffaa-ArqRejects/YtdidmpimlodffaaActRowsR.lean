/- A slice of chapter 14's calls (structs of two ints and a slice of bytes) that comes in: what it reads as. No condition. -/
import Derived.Test.YtdidmpimlodffaaG2
import Derived.Deep.Slices
namespace Go.Proofs.Ytdidmpimlodffaa
open Go.RowKit Go.ChangeShapes Go.WideShapes Go.Deep
set_option linter.unusedVariables false

/-- a call: its way, its number, its octets -/
structure ActP where
  way : Int
  n : Int
  x : List UInt8
def ActP.zero : ActP := ⟨0, 0, []⟩
/-- the cells from off on of the block b hold the call q -/
def ActAt (w : World) (b off : Nat) (q : ActP) : Prop :=
  w.cell? ⟨b, off, none⟩ = some (.int .i64 q.way) ∧ w.cell? ⟨b, off + 1, none⟩ = some (.int .i64 q.n) ∧ (-9223372036854775808 ≤ q.n ∧ q.n ≤ 9223372036854775807) ∧
    ∃ B d, w.cell? ⟨b, off + 2, none⟩ = some (.slice B q.x.length d) ∧ Rd w B q.x ∧ q.x.length ≤ d ∧ d ≤ maxLen
/-- The slice at A reads as the calls ls. -/
def RdP (w : World) (A : Option Addr) (ls : List ActP) : Prop := ls ≠ [] → ∃ b off, A = some ⟨b, off, none⟩ ∧ ∀ j, j < ls.length → ActAt w b (off + j * 3) (ls.getD j ActP.zero)
theorem RdP.at_ {w : World} {A : Option Addr} {ls : List ActP} (h : RdP w A ls) {j : Nat} (hj : j < ls.length) : ∃ b off, A = some ⟨b, off, none⟩ ∧ b < w.heap.size ∧ ActAt w b (off + j * 3) (ls.getD j ActP.zero) := by
  obtain ⟨b, off, e, hc⟩ := h (by rintro rfl; simp at hj)
  exact ⟨b, off, e, World.block_lt_of_cell? w _ (hc j hj).1, hc j hj⟩
/-- what a slice of calls that came in is told as -/
def IsActs (w : World) (a : Option Addr) (len cap : Nat) : Prop := ∃ ls : List ActP, ls.length = len ∧ len ≤ cap ∧ cap ≤ maxLen ∧ RdP w a ls
set_option maxRecDepth 20000 in
theorem isActs_of {H : Type} {enc : TypeId × Value → H} {w : World} {base : Nat} {held : Bool} {fuel : Nat} {a : Option Addr} {len cap : Nat} {x : DataW H × List MemPlace}
    (h : DataW.trod enc Try.prog w base (fun _ => true) held fuel 57 (Value.slice a len cap).cells.toList = some x) : IsActs w a len cap := by
  rcases open_slice Try.underlying57 h with ⟨hcs, _⟩ | ⟨ad, l, c, m, n, D, Pl, hcs, _, hl, hm, hmm, _, hx⟩
  · simp [Value.cells] at hcs
    obtain ⟨rfl, rfl, rfl⟩ := hcs
    exact ⟨[], rfl, Nat.le_refl _, by decide, fun h => absurd rfl h⟩
  · simp [Value.cells] at hcs
    obtain ⟨rfl, rfl, rfl⟩ := hcs
    have hm' : m = cap := by rw [hmm]; rfl
    subst hm'
    have ce : Try.prog.cellsOf 62 = 3 := by kernel_rfl
    have ci : Try.prog.cellsOf 3 = 1 := by kernel_rfl
    have cs : Try.prog.cellsOf 39 = 1 := by kernel_rfl
    have each : ∀ i, i < m → ∃ q : ActP, w.cell? (ad.add (i * 3)) = some (.int .i64 q.way) ∧ w.cell? (ad.add (i * 3 + 1)) = some (.int .i64 q.n) ∧ (-9223372036854775808 ≤ q.n ∧ q.n ≤ 9223372036854775807) ∧
        ∃ B d, w.cell? (ad.add (i * 3 + 2)) = some (.slice B q.x.length d) ∧ Rd w B q.x ∧ q.x.length ≤ d ∧ d ≤ maxLen := by
      intro i hi
      obtain ⟨cs', h1, h2⟩ := hx i hi
      rw [ce] at h1
      obtain ⟨_, hlen, hcell⟩ := World.cells?_some h1
      obtain ⟨xs, k, hk, hxy, _, hxl, hf⟩ := DataW.trod_struct Try.underlying62 h2
      match xs, hxl, cs', hlen with
      | [y0, y1, y2], _, [v0, v1, v2], _ =>
        have g0 := hf 0 _ rfl
        have g1 := hf 1 _ rfl
        have g2 := hf 2 _ rfl
        simp [ci, cs] at g0 g1 g2
        obtain ⟨n0, e0, _⟩ := DataW.trod_int Try.underlying3 g0
        obtain ⟨n1, e1, w1⟩ := DataW.trod_int Try.underlying3 g1
        have d0 := hcell 0 (by omega)
        have d1 := hcell 1 (by omega)
        have d2 := hcell 2 (by omega)
        rw [add_add] at d0 d1 d2
        simp at e0 e1
        subst e0 e1
        have hb1 : -9223372036854775808 ≤ n1 ∧ n1 ≤ 9223372036854775807 := by
          have h := w1.2
          simp only [Lit.wf, Bool.and_eq_true, decide_eq_true_eq] at h
          exact h
        rcases open_ints Try.underlying39 Try.underlying5 (by kernel_rfl) g2 with ⟨hcs, _⟩ | ⟨x, l, c, zs, hcs, _, hl, hm, hz, _, hcl, hwz⟩
        · injection hcs with hcs
          subst hcs
          exact ⟨⟨n0, n1, []⟩, by simpa using d0, by simpa using d1, hb1, none, 0, by simpa using d2, Rd.nil _ _, Nat.le_refl _, by decide⟩
        · injection hcs with hcs
          subst hcs
          obtain ⟨r, hr1, hr2, hr3, hr4⟩ := Rd.of_row (w := w) (a := some x) (len := l) (cap := c) (zs := zs) (.inr ⟨x, rfl, hl, hm, by simpa using hz, hcl, hwz⟩)
          subst hr1
          exact ⟨⟨n0, n1, r⟩, by simpa using d0, by simpa using d1, hb1, some x, c, by simpa using d2, hr4, hr2, hr3⟩
    haveI : Inhabited ActP := ⟨ActP.zero⟩
    obtain ⟨q, hq⟩ := choose_lt (α := ActP) each
    refine ⟨(List.range len).map q, by simp, hl, hm, fun hne => ?_⟩
    have hp : 0 < len := by
      rcases Nat.eq_zero_or_pos len with h | h
      · subst h; simp at hne
      · exact h
    obtain ⟨b, off, spot⟩ := ad
    have hc0 := (hq 0 (by omega)).1
    have hspot : spot = none := by simpa [Addr.add] using World.cell?_spot hc0
    subst hspot
    refine ⟨b, off, rfl, fun j hj => ?_⟩
    simp at hj
    have hg : ((List.range len).map q).getD j ActP.zero = q j := by simp [hj]
    rw [hg]
    have := hq j (by omega)
    rw [add_plain, add_plain, add_plain] at this
    simpa [ActAt, Nat.add_assoc] using this
end Go.Proofs.Ytdidmpimlodffaa

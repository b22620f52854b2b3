/- The document's example, as each statement of the chapter looks at it first; the far ends. Condition: none. -/
import Derived.Test.YtgmgbfelpefojaaOctUn
namespace Go.Proofs.Ytgmgbfelpefojaa
open Go.RowKit
open Oct
set_option linter.unusedVariables false

/-- the call returns true; nothing that was there has turned -/
def Live (w : World) (e : Ending) (w' : World) : Prop := e = .returned (.bool true) ∧ Below w.heap.size w w'
theorem alive_calls (w : World) : Calls Try.prog 8 #[] w (Live w) := by
  have s1 : stuff [126] = [125, 94] := by decide
  have u1 : un false [] [125, 94] = ([126], 0) := by decide
  have hs : Calls Try.prog 9 #[.slice (some ⟨w.heap.size, 0, none⟩) 1 1] (laid w [126]) fun e w' => ∃ A c, e = .returned (.slice A 2 c) ∧ Rd w' A [125, 94] ∧ Below (laid w [126]).heap.size (laid w [126]) w' := by
    have := stuff_calls (some ⟨w.heap.size, 0, none⟩) 1 [126] (laid w [126]) (laid_rd w [126]) (by simp)
    rw [s1] at this
    exact this
  have HS := Lib.hid s1
  have HU := Lib.hid u1
  clear s1 u1
  go_enter Try.func8, Try.ntmps8
  go_wp2_with fail
  refine hs.mono ?_
  rintro e w1 ⟨A1, c1, rfl, r1, b1⟩
  clear hs
  have hu : Calls Try.prog 10 #[.slice A1 2 c1] w1 fun e w' => ∃ A c, e = .returned (.tuple #[.slice A 1 c, .int .i64 0]) ∧ Rd w' A [126] ∧ Below w1.heap.size w1 w' := by
    have := unstuff_calls A1 c1 [125, 94] w1 r1 (by simp)
    rw [HU.out] at this
    exact this
  go_wp2_with fail
  refine hu.mono ?_
  rintro e w2 ⟨A2, c2, rfl, r2, b2⟩
  clear hu
  obtain ⟨g1, o1, rfl, _, h0⟩ := (r1.below b2).at_ (k := 0) (by simp)
  obtain ⟨g1', o1', e1, _, h1⟩ := (r1.below b2).at_ (k := 1) (by simp)
  injection e1 with e1
  injection e1 with e1 e2
  subst e1 e2
  obtain ⟨g2, o2, rfl, _, h2⟩ := r2.at_ (k := 0) (by simp)
  have h0' : w2.cell? ⟨g1, o1, none⟩ = some (.int .u8 125) := h0
  have h1' : w2.cell? ⟨g1, o1 + 1, none⟩ = some (.int .u8 94) := h1
  have h2' : w2.cell? ⟨g2, o2, none⟩ = some (.int .u8 126) := h2
  clear h0 h1 h2
  have bel : Below w.heap.size w w2 := (laid_below w [126]).trans ((b1.trans (b2.mono b1.size)).mono (by rw [laid_size]; omega))
  clear HS HU
  go_wp2_with (go_at_call 12; refine (num_calls _ _).mono ?_; rintro e w' ⟨rfl, rfl⟩)
  go_ret
  exact ⟨rfl, bel⟩
end Go.Proofs.Ytgmgbfelpefojaa

/- What a call leaves alone where several things of the caller's own live side by side: rows of bytes. No condition. -/
import Derived.Test.YtbalhpffdgbdgaaBytesNew
import Derived.Test.YtbalhpffdgbdgaaMemOnly
namespace Go.Proofs.Ytbalhpffdgbdgaa
open Go.RowKit
set_option linter.unusedVariables false

theorem Rd.only {F : Nat → Prop} {w w' : World} {A : Option Addr} {l : List UInt8} (h : Rd w A l) (o : Only F w w') (hF : ∀ k, blk A = some k → ¬ F k) : Rd w' A l := fun hl => by
  obtain ⟨b, off, e, hc⟩ := h hl
  refine ⟨b, off, e, fun j hj => ?_⟩
  have hb := World.block_lt_of_cell? w _ (hc j hj)
  rw [← hc j hj]
  exact World.cell?_of_block (w := w) (o.block b hb (hF b (by rw [e]; rfl)))
theorem Own.only {F : Nat → Prop} {w w' : World} {base : Nat} {A : Option Addr} {c : Nat} {l : List UInt8} (h : Own w base A c l) (o : Only F w w') (hF : ∀ k, blk A = some k → ¬ F k) : Own w' base A c l := ownsRow_only h o hF
theorem Own.blk_ge {w : World} {base : Nat} {A : Option Addr} {c : Nat} {l : List UInt8} (h : Own w base A c l) : ∀ k, blk A = some k → base ≤ k ∧ k < w.heap.size := by
  intro k hk
  rcases h.2 with ⟨hv, _⟩ | ⟨g, cap, cur, hv, hb, hh, _⟩
  · injection hv with hA
    subst hA
    cases hk
  · injection hv with hA
    subst hA
    injection hk with hk
    have hk' : g = k := hk
    subst hk'
    exact ⟨hb, (Array.getElem?_eq_some_iff.1 hh).1⟩

/-- one new row of bytes, appended onto a row of the call's own -/
theorem app_only (w : World) (base : Nat) (A : Option Addr) (c : Nat) (xs m : List UInt8) (hown : Own w base A c xs) (hbase : base ≤ w.heap.size) (hby : xs.length + m.length ≤ 140737488355328) (hm : 0 < m.length) :
    ∃ A' c' w', (∀ ty, (Builtin.append_ #[28, 28] ty #[.slice A xs.length c, .slice (some ⟨w.heap.size, 0, none⟩) m.length m.length]).run Try.prog (laid w m) = .ok (.slice A' (xs ++ m).length c') w') ∧ Own w' base A' c' (xs ++ m) ∧
      Only (fun k => blk A = some k) w w' ∧ ∀ k, blk A' = some k → blk A = some k ∨ w.heap.size ≤ k := by
  obtain ⟨i0, hi, hz0, hz1, hz2⟩ := info_parts info8
  obtain ⟨A', d, w', r, o, on, kin⟩ := app_kin (laid w m) base 28 5 i0 _ 1 Try.underlying28 hi hz0 hz1 hz2 rfl A c xs.length (xs.map bv) (hown.alloc _) ⟨w.heap.size, 0, none⟩ m.length m.length (m.map bv) (by simp)
    (fun j u hu => by
      rw [Go.WideShapes.add_plain, Nat.zero_add, cell_of_row _ _ j _ _ (0, 0) (laid_block w m)]
      simpa using hu)
    (fun u hu => by obtain ⟨x, _, rfl⟩ := List.mem_map.mp hu; rfl) (by unfold maxLen; omega) (by omega) (by rw [laid_size]; omega) hm
  refine ⟨A', d, w', fun ty => by rw [r ty]; simp, ?_, (Only.of_below _ (laid_below w m)).trans on (fun _ _ h => h), fun k hk => ?_⟩
  · unfold Own
    simpa using o
  · rcases kin k hk with h | h
    · exact .inl h
    · rw [laid_size] at h
      exact .inr (by omega)

/-- whatever bytes, appended onto a row of the call's own -/
theorem app_src (w : World) (base : Nat) (A : Option Addr) (c : Nat) (xs : List UInt8) (hown : Own w base A c xs) (C : Option Addr) (d : Nat) (m : List UInt8) (hr : Rd w C m) (hbase : base ≤ w.heap.size) (hby : xs.length + m.length ≤ 140737488355328) (hm : 0 < m.length) :
    ∃ A' c' w', (∀ ty, (Builtin.append_ #[28, 28] ty #[.slice A xs.length c, .slice C m.length d]).run Try.prog w = .ok (.slice A' (xs ++ m).length c') w') ∧ Own w' base A' c' (xs ++ m) ∧
      Only (fun k => blk A = some k) w w' ∧ ∀ k, blk A' = some k → blk A = some k ∨ w.heap.size ≤ k := by
  obtain ⟨i0, hi, hz0, hz1, hz2⟩ := info_parts info8
  obtain ⟨b, off, rfl, hc⟩ := hr (by intro e; rw [e] at hm; simp at hm)
  obtain ⟨A', d', w', r, o, on, kin⟩ := app_kin w base 28 5 i0 _ 1 Try.underlying28 hi hz0 hz1 hz2 rfl A c xs.length (xs.map bv) hown ⟨b, off, none⟩ m.length d (m.map bv) (by simp)
    (fun j u hu => by
      have hj : j < m.length := by
        rcases Nat.lt_or_ge j m.length with h | h
        · exact h
        · rw [List.getElem?_eq_none (by simpa using h)] at hu; cases hu
      rw [Go.WideShapes.add_plain, hc j hj]
      simp [List.getElem?_eq_getElem hj] at hu
      simp [hj, hu])
    (fun u hu => by obtain ⟨x, _, rfl⟩ := List.mem_map.mp hu; rfl) (by unfold maxLen; omega) (by omega) hbase hm
  refine ⟨A', d', w', fun ty => by rw [r ty]; simp, ?_, on, kin⟩
  unfold Own
  simpa using o

theorem Own.below {w w' : World} {base : Nat} {A : Option Addr} {c : Nat} {l : List UInt8} (h : Own w base A c l) (b : Below w.heap.size w w') : Own w' base A c l := h.only (F := fun _ => False) (Only.of_below _ b) (fun _ _ h => h)
end Go.Proofs.Ytbalhpffdgbdgaa

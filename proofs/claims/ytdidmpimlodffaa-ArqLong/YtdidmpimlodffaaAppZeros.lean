/- append of new zeros onto four octets that fill their row. Condition: at most 1100. -/
import Derived.Test.YtdidmpimlodffaaG4
import Derived.Test.YtdidmpimlodffaaG2
namespace Go.Proofs.Ytdidmpimlodffaa
open Go.RowKit
set_option linter.unusedVariables false

theorem app_zeros0 (W : World) (g : Nat) (ty : TypeId) : (Builtin.append_ #[39, 3] ty #[.slice (some ⟨g, 0, none⟩) 4 4, .int .i64 0]).run Try.prog W = .ok (.slice (some ⟨g, 0, none⟩) 4 4) W := by
  obtain ⟨i0, hi, hz0, hz1, hz2⟩ := info_parts info8
  have hw : IntKind.i64.wrap (0 : Int) = 0 := by rw [IntKind.wrap_i64]; rfl
  simp [Builtin.append_, run_underlying Try.underlying39, run_underlying Try.underlying3, sizeOf, typeInfo, zeroValue, hi, hz0, asInt, asIntOf, hw, storeCells]
set_option maxRecDepth 20000 in
theorem app_zeros (W : World) (g : Nat) (m : List UInt8) (hm : m.length = 4) (hr : Rd W (some ⟨g, 0, none⟩) m) (n : Nat) (h0 : 0 < n) (hn : n ≤ 1100) :
    ∃ c W', 4 + n ≤ c ∧ c ≤ maxLen ∧ (∀ ty, (Builtin.append_ #[39, 3] ty #[.slice (some ⟨g, 0, none⟩) 4 4, .int .i64 (n : Int)]).run Try.prog W = .ok (.slice (some ⟨W.heap.size, 0, none⟩) (4 + n) c) W') ∧ Rd W' (some ⟨W.heap.size, 0, none⟩) (m ++ List.replicate n 0) ∧ Below W.heap.size W W' ∧ W.heap.size < W'.heap.size := by
  obtain ⟨i0, hi, hz0, hz1, hz2⟩ := info_parts info8
  have hcell : ∀ j v, (m.map bv)[j]? = some v → W.drew.cell? ((⟨g, 0, none⟩ : Addr).add j) = some v := fun j v hj => by
    have hjl : j < m.length := by
      rcases Nat.lt_or_ge j m.length with h | h
      · exact h
      · rw [List.getElem?_eq_none (by simpa using h)] at hj; cases hj
    obtain ⟨b', off, e, hc⟩ := hr (by rintro rfl; simp at hm)
    injection e with e
    injection e with e1 e2
    subst e1 e2
    rw [Go.WideShapes.add_plain]
    show W.cell? _ = _
    rw [hc j hjl]
    simp [List.getElem?_eq_getElem hjl] at hj
    simp [hjl, hj]
  have hold : (Builtin.firstCells i0.size 4 (.slice (some ⟨g, 0, none⟩) 4 4)).run Try.prog W.drew = .ok (m.map bv).toArray W.drew := run_firstCells_some W.drew i0.size 4 ⟨g, 0, none⟩ 4 4 (m.map bv) (by rw [List.length_map, hm, hz1]) hcell
  have hz := fun ty => Lib.run_append_grow_zeros W 39 3 ty 5 i0 _ .i64 .i64 Try.underlying39 Try.underlying3 hi hz0 (some ⟨g, 0, none⟩) 4 4 (m.map bv) hold n h0 (by omega) (by omega) (by omega) (by rw [hz2]; omega)
    (by rw [hz2]; exact growslice_fits (by omega) (by omega))
  have hG1 : 4 + n ≤ grownCap W (4 + n) 4 5 := grownCap_ge W _ _ _
  have hG2 := grownCap_le_maxLen W (4 + n) 4 5 (by unfold maxLen; omega)
  generalize grownCap W (4 + n) 4 5 = G at hz hG1 hG2
  refine ⟨G, _, hG1, hG2, hz, fun _ => ⟨W.heap.size, 0, rfl, fun j hj => ?_⟩, (Below.refl _ _).drew.alloc (Nat.le_refl _) _, by show W.heap.size < (W.drew.heap.push _).size; rw [Array.size_push]; exact Nat.lt_succ_self _⟩
  rw [Nat.zero_add, World.cell?_alloc_at (w := W.drew) _ _ W.heap.size j rfl]
  rw [List.length_append, List.length_replicate, hm] at hj
  have e : Builtin.zeroCells (Value.int .u8 0).cells n = ((List.replicate n (0 : UInt8)).map bv).toArray := by
    apply Array.ext'
    simp [Builtin.zeroCells, Value.cells, bv]
    apply List.ext_getElem
    · simp
    · intro k h1 h2
      simp [Nat.mod_one]
  rw [e, Array.getElem?_append_left (by simp [hm]; omega), show (m.map bv).toArray ++ ((List.replicate n (0 : UInt8)).map bv).toArray = ((m ++ List.replicate n 0).map bv).toArray by simp]
  simp only [List.getElem?_toArray, List.getElem?_map]
  rw [List.getD_eq_getElem?_getD, List.getElem?_eq_getElem (by simp [hm]; omega)]
  rfl
/-- the four octets of an input's head, and n zeros behind them -/
theorem head_zeros (w : World) (m : List UInt8) (hm : m.length = 4) (n : Nat) (hn : n ≤ 1100) : ∃ A c W', 4 + n ≤ c ∧ c ≤ maxLen ∧ (∀ ty, (Builtin.append_ #[39, 3] ty #[.slice (some ⟨w.heap.size, 0, none⟩) 4 4, .int .i64 (n : Int)]).run Try.prog (laid w m).drew = .ok (.slice A (4 + n) c) W') ∧ Rd W' A (m ++ List.replicate n 0) ∧ Below w.heap.size w W' ∧ ∀ k, blk A = some k → w.heap.size ≤ k ∧ k < W'.heap.size := by
  have hs := laid_size w m
  have be0 : Below w.heap.size w (laid w m).drew := (laid_below w m).trans ⟨rfl, rfl, rfl, Nat.le_refl _, fun _ _ => rfl⟩
  have rd0 : Rd (laid w m).drew (some ⟨w.heap.size, 0, none⟩) m := laid_rd w m
  by_cases h0 : n = 0
  · subst h0
    refine ⟨some ⟨w.heap.size, 0, none⟩, 4, (laid w m).drew, Nat.le_refl _, by decide, fun ty => app_zeros0 _ _ ty, by simpa using rd0, be0, fun k hk => ?_⟩
    injection hk with hk
    show _ ∧ _ < (laid w m).heap.size
    rw [hs, ← hk]
    exact ⟨Nat.le_refl _, Nat.lt_succ_self _⟩
  · obtain ⟨c, W', g1, g2, g3, g4, g5, g6⟩ := app_zeros (laid w m).drew w.heap.size m hm rd0 n (by omega) hn
    refine ⟨_, c, W', g1, g2, g3, g4, be0.trans (g5.mono be0.size), fun k hk => ?_⟩
    injection hk with hk
    have hk : (laid w m).drew.heap.size = k := hk
    have := be0.size
    omega
end Go.Proofs.Ytdidmpimlodffaa

/- A row of numbers of the call's own (of any integer kind): what it holds, append. Condition of append: at most 100000 of them. -/
import Derived.Test.YteofffnfafhgfaaMemOnly
namespace Go.Proofs.Yteofffnfafhgfaa
open Go.RowKit
set_option linter.unusedVariables false

/-- sl is the type of the slices of e, e an integer type of kind k -/
structure NT (sl e : TypeId) (k : IntKind) (bytes : Nat) : Prop where
  und : Try.prog.underlying sl = some (.slice e)
  info : (Try.prog.info? e).map (fun i => (i.zero, i.size, i.bytes)) = some (some (.int k 0), 1, bytes)
  small : bytes ≤ 8
/-- the value of a number -/
def nv (k : IntKind) (x : Nat) : Value := .int k (x : Int)
/-- the slice owns the numbers L, in a block from base on -/
def NOwn (e : TypeId) (k : IntKind) (w : World) (base : Nat) (A : Option Addr) (c : Nat) (L : List Nat) : Prop := w.ownsRow base e 1 (.slice A L.length c) L.length (L.map (nv k)) ∧ (L = [] → A = none ∧ c = 0)
section
variable {sl e : TypeId} {k : IntKind} {w : World} {base : Nat} {A : Option Addr} {c : Nat} {L : List Nat}
theorem NOwn.nil (e : TypeId) (k : IntKind) (w : World) (base : Nat) : NOwn e k w base none 0 [] := ⟨World.ownsRow_nil _ _ _ _, fun _ => ⟨rfl, rfl⟩⟩
theorem NOwn.parts (h : NOwn e k w base A c L) (hl : L ≠ []) :
    ∃ g, A = some ⟨g, 0, none⟩ ∧ base ≤ g ∧ g < w.heap.size ∧ L.length ≤ c ∧ (∀ j, j < L.length → w.cell? ⟨g, 0 + j, none⟩ = some (.int k ((L.getD j 0 : Nat) : Int))) ∧ ∀ j, w.frozen? ⟨g, j, none⟩ = false := by
  have hp := List.length_pos_iff.2 hl
  have h' := h.1
  rcases h.1.2 with ⟨_, h0⟩ | ⟨g, cap, cur, hv, hb, hh, hn, hm, _⟩
  · omega
  injection hv with hA _ hc
  subst hA hc
  refine ⟨g, rfl, hb, lt_of_block hh, hn, fun j hj => ?_, fun j => frozen_of_row w g j _ _ hh⟩
  rw [Nat.zero_add, World.ownsRow.cellAt h' j (by omega)]
  simp [List.getElem?_eq_getElem hj, nv]
theorem NOwn.blk_ge (h : NOwn e k w base A c L) : ∀ i, blk A = some i → base ≤ i ∧ i < w.heap.size := fun i hi => by
  by_cases hl : L = []
  · rw [(h.2 hl).1] at hi
    cases hi
  · obtain ⟨g, rfl, hg, hg2, _⟩ := h.parts hl
    injection hi with hi
    have hi' : g = i := hi
    omega
theorem NOwn.only {F : Nat → Prop} {w' : World} (h : NOwn e k w base A c L) (o : Only F w w') (hF : ∀ i, blk A = some i → ¬ F i) : NOwn e k w' base A c L := ⟨ownsRow_only h.1 o hF, h.2⟩
theorem NOwn.drewN (h : NOwn e k w base A c L) (m : Nat) : NOwn e k (w.drewN m) base A c L := h
theorem NOwn.lower (h : NOwn e k w base A c L) {base' : Nat} (hb : base' ≤ base) : NOwn e k w base' A c L := by
  refine ⟨⟨h.1.1, ?_⟩, h.2⟩
  rcases h.1.2 with h0 | ⟨g, cap, cur, h1, h2, h3⟩
  · exact .inl h0
  · exact .inr ⟨g, cap, cur, h1, Nat.le_trans hb h2, h3⟩
theorem NOwn.app {bytes : Nat} (T : NT sl e k bytes) (h : NOwn e k w base A c L) (hb : base ≤ w.heap.size) (hlen : L.length ≤ 100000) (x : Nat) :
    ∃ A' c' w', (∀ ty, (Builtin.append_ #[sl, sl] ty #[.slice A L.length c, .slice (some ⟨w.heap.size, 0, none⟩) 1 1]).run Try.prog (w.alloc (.cells #[.int k (x : Int)] e)) = .ok (.slice A' (L.length + 1) c') w') ∧ NOwn e k w' base A' c' (L ++ [x]) ∧
      Only (fun i => blk A = some i) w w' ∧ (∀ i, blk A' = some i → blk A = some i ∨ w.heap.size ≤ i) := by
  obtain ⟨i0, hi, hz0, hz1, hz2⟩ := info_parts T.info
  have hsm := T.small
  obtain ⟨B', d', w2, r, o, on, kin⟩ := app_kin (w.alloc (.cells #[.int k (x : Int)] e)) base sl e i0 _ bytes T.und hi hz0 hz1 hz2 rfl A c L.length (L.map (nv k)) (World.ownsRow.alloc h.1 _) ⟨w.heap.size, 0, none⟩ 1 1 [nv k x] rfl
    (fun j u hu => by
      rw [Go.WideShapes.add_plain, Nat.zero_add, cell_of_row _ _ j _ _ (0, 0) (heap_alloc_new w _)]
      simpa [nv] using hu)
    (fun u hu => by simp at hu; subst hu; rfl) (by unfold maxLen; omega) (by
      have : (L.length + 1) * bytes ≤ (L.length + 1) * 8 := Nat.mul_le_mul_left _ hsm
      omega) (by simp; omega) (by decide)
  refine ⟨B', d', w2, r, ⟨by simpa using o, fun e => by simp at e⟩, ?_, fun i hi => ?_⟩
  · exact ((Only.refl (fun i => blk A = some i) w).alloc _).trans on (fun i hi h => h)
  · rcases kin i hi with h1 | h1
    · exact .inl h1
    · exact .inr (by simp at h1; omega)
end
end Go.Proofs.Yteofffnfafhgfaa

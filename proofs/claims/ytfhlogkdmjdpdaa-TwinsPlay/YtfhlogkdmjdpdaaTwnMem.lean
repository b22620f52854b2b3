/- A table of the program in memory: its cells, what a store leaves. No condition. -/
import Derived.Test.YtfhlogkdmjdpdaaTwnPlain
import Derived.Laws.Tables
import Derived.Lib.SliceRun
import Derived.Laws.IdiomCopy
import Derived.StillTailTactics
import Derived.BigQuiet
namespace Go.Proofs.Ytfhlogkdmjdpdaa
open Go.RowKit
set_option linter.unusedVariables false

theorem only_put {b : Nat} {w w1 : World} (o : Only (fun k => k = b) w w1) (j : Nat) (v : Value) : Only (fun k => k = b) w (w1.setCell ⟨b, j, none⟩ v) := o.setCell (p := ⟨b, j, none⟩) (.inl rfl) v
theorem Only.drewN {F : Nat → Prop} {w w1 : World} (o : Only F w w1) (m : Nat) : Only F w (w1.drewN m) := ⟨o.os, o.tape, o.output, o.size, o.block⟩
theorem only_setCells (w : World) (g : Nat) : ∀ (vs : List Value) (o : Nat), Only (fun k => k = g) w (w.setCells g o vs) := by
  intro vs
  induction vs generalizing w with
  | nil => exact fun o => Only.refl _ w
  | cons v r ih =>
    intro o
    have h1 : Only (fun k => k = g) w (w.setCell ⟨g, o, none⟩ v) := only_put (Only.refl _ w) o v
    exact h1.trans (ih (w.setCell ⟨g, o, none⟩ v) (o + 1)) (fun _ _ h => h)
/-- the cells of a table of the program -/
def trow (f : Nat → Bool) : List Value := (List.range 4096).map fun j => Value.bool (f j)
def tcells (S : Nat) (kn : Bool) (hi : Nat) (f : Nat → Bool) : Array Value := (Value.int .u32 (S : Int) :: Value.bool kn :: Value.int .u32 (hi : Int) :: trow f).toArray
def zcells (n : Int) : Array Value := (Value.int .u32 n :: Value.bool false :: Value.int .u32 0 :: List.replicate 4096 (Value.bool false)).toArray
theorem trow_len (f : Nat → Bool) : (trow f).length = 4096 := by simp [trow]
theorem trow_at (f : Nat → Bool) {j : Nat} (h : j < 4096) : (trow f)[j]? = some (.bool (f j)) := by simp [trow, h]
theorem trow_false : trow (fun _ => false) = List.replicate 4096 (Value.bool false) := by
  refine List.ext_getElem? fun j => ?_
  by_cases h : j < 4096
  · rw [trow_at _ h, List.getElem?_replicate, if_pos h]
  · rw [List.getElem?_eq_none (by rw [trow_len]; omega), List.getElem?_eq_none (by rw [List.length_replicate]; omega)]
theorem trow_set (f : Nat → Bool) {j : Nat} (h : j < 4096) (x : Bool) : (trow f).set j (.bool x) = trow fun i => if i = j then x else f i := by
  refine List.ext_getElem? fun i => ?_
  rw [List.getElem?_set]
  by_cases hi : i < 4096
  · rw [trow_at _ hi, trow_at _ hi, trow_len]
    by_cases e : j = i
    · rw [if_pos e, if_pos h, if_pos e.symm]
    · rw [if_neg e, if_neg (fun e' => e e'.symm)]
  · rw [if_neg (by omega), List.getElem?_eq_none (by rw [trow_len]; omega), List.getElem?_eq_none (by rw [trow_len]; omega)]
theorem zcells_eq (n : Nat) : zcells (n : Int) = tcells n false 0 (fun _ => false) := by
  unfold zcells tcells
  rw [trow_false]
  rfl
theorem tcells_size (S : Nat) (kn : Bool) (hi : Nat) (f : Nat → Bool) : (tcells S kn hi f).size = 4099 := by unfold tcells; simp [trow_len]
section
variable {w : World} {b S hi : Nat} {kn : Bool} {f : Nat → Bool} {t : TypeId}
theorem tcell (h : w.heap[b]? = some (.cells (tcells S kn hi f) t (0, 0))) :
    w.cell? ⟨b, 0, none⟩ = some (.int .u32 (S : Int)) ∧ w.cell? ⟨b, 1, none⟩ = some (.bool kn) ∧ w.cell? ⟨b, 2, none⟩ = some (.int .u32 (hi : Int)) ∧ ∀ j, j < 4096 → w.cell? ⟨b, 3 + j, none⟩ = some (.bool (f j)) := by
  refine ⟨?_, ?_, ?_, fun j hj => ?_⟩ <;> rw [cell_of_row w b _ _ _ (0, 0) h] <;> unfold tcells <;> rw [List.getElem?_toArray]
  · rfl
  · rfl
  · rfl
  · rw [Nat.add_comm, List.getElem?_cons_succ, List.getElem?_cons_succ, List.getElem?_cons_succ, trow_at f hj]
theorem tset_kn (h : w.heap[b]? = some (.cells (tcells S kn hi f) t (0, 0))) (x : Bool) : (w.setCell ⟨b, 1, none⟩ (.bool x)).heap[b]? = some (.cells (tcells S x hi f) t (0, 0)) := by
  rw [heap_setCell_same w b 1 _ t _ h]
  rfl
theorem tset_hi (h : w.heap[b]? = some (.cells (tcells S kn hi f) t (0, 0))) (x : Nat) : (w.setCell ⟨b, 2, none⟩ (.int .u32 (x : Int))).heap[b]? = some (.cells (tcells S kn x f) t (0, 0)) := by
  rw [heap_setCell_same w b 2 _ t _ h]
  rfl
theorem tset_at (h : w.heap[b]? = some (.cells (tcells S kn hi f) t (0, 0))) {j : Nat} (hj : j < 4096) (x : Bool) : (w.setCell ⟨b, 3 + j, none⟩ (.bool x)).heap[b]? = some (.cells (tcells S kn hi fun i => if i = j then x else f i) t (0, 0)) := by
  rw [heap_setCell_same w b (3 + j) _ t _ h]
  unfold tcells
  rw [List.setIfInBounds_toArray, Nat.add_comm, List.set_cons_succ, List.set_cons_succ, List.set_cons_succ, trow_set f hj]
end
/-- the places from a on, n of them, cleared -/
def wipe (f : Nat → Bool) (a n : Nat) : Nat → Bool := fun i => if a ≤ i ∧ i < a + n then false else f i
theorem tset_clear {b S hi : Nat} {kn : Bool} {t : TypeId} : ∀ (n a : Nat) (f : Nat → Bool) (w : World), a + n ≤ 4096 → w.heap[b]? = some (.cells (tcells S kn hi f) t (0, 0)) → (w.setCells b (3 + a) (List.replicate n (.bool false))).heap[b]? = some (.cells (tcells S kn hi (wipe f a n)) t (0, 0))
  | 0, a, f, w, _, h => by
    have : wipe f a 0 = f := funext fun i => if_neg (by omega)
    rw [this]
    exact h
  | n + 1, a, f, w, hl, h => by
    have h1 := tset_at h (j := a) (by omega) false
    have h2 := tset_clear n (a + 1) _ _ (by omega) h1
    have e : wipe (fun i => if i = a then false else f i) (a + 1) n = wipe f a (n + 1) := funext fun i => by
      unfold wipe
      by_cases h1 : a + 1 ≤ i ∧ i < a + 1 + n
      · rw [if_pos h1, if_pos (by omega)]
      · rw [if_neg h1]
        by_cases h2 : i = a
        · rw [if_pos (by omega)]
          exact if_pos h2
        · rw [if_neg (show ¬ (a ≤ i ∧ i < a + (n + 1)) by omega)]
          exact if_neg h2
    rw [e] at h2
    rw [List.replicate_succ, World.setCells]
    exact h2
theorem run_clear_row {w : World} {b S hi : Nat} {kn : Bool} {f : Nat → Bool} {t : TypeId} (h : w.heap[b]? = some (.cells (tcells S kn hi f) t (0, 0))) {a n : Nat} (hn : 0 < n) (hl : a + n ≤ 4096) (c : Nat) (ty : TypeId) :
    (Builtin.clear_ #[23] ty #[.slice (some ⟨b, 3 + a, none⟩) n c]).run Try.prog w = .ok (.tuple #[]) (w.setCells b (3 + a) (List.replicate n (.bool false))) := by
  obtain ⟨_, _, _, hc⟩ := tcell h
  refine Lib.run_clear_slice w 23 4 ty (.bool false) Try.underlying23 ?_ rfl rfl b (3 + a) n c hn (fun j hj => ?_) (fun j hj => frozen_of_row w b _ _ _ h)
  · intro w
    have hi : (Try.prog.info? 4).map (fun i => i.zero) = some (some (.bool false)) := by kernel_rfl
    cases hq : Try.prog.info? 4 with
    | none => rw [hq] at hi; cases hi
    | some i =>
      rw [hq] at hi
      have hi : i.zero = some (.bool false) := by simpa using hi
      simp [zeroValue, typeInfo, hq, hi]
  · rw [Nat.add_assoc, hc (a + j) (by omega)]
    rfl
/-- The block b holds the table m. -/
def PT (w : World) (b : Nat) (m : Tb) : Prop :=
  ∃ (f : Nat → Bool) (hi : Nat), m.ok ∧ hi < 4294967296 ∧ w.heap[b]? = some (.cells (tcells m.S m.kn hi f) 39 (0, 0)) ∧
    (m.kn = true → hi = m.hi ∧ ∀ d, d < m.S → f ((m.hi + 4294967296 - d) % 4096) = m.arr d) ∧ (m.kn = false → f = fun _ => false)
section
variable {w : World} {b : Nat} {m : Tb}
theorem PT.lt (h : PT w b m) : b < w.heap.size := by
  obtain ⟨_, _, _, _, h, _⟩ := h
  exact lt_of_block h
theorem PT.ok (h : PT w b m) : m.ok := by
  obtain ⟨_, _, h, _⟩ := h
  exact h
theorem PT.only {F : Nat → Prop} {w' : World} (h : PT w b m) (o : Only F w w') (hF : ¬ F b) : PT w' b m := by
  have hlt := h.lt
  obtain ⟨f, hi, h1, h2, h3, h4⟩ := h
  exact ⟨f, hi, h1, h2, (o.block b hlt hF).trans h3, h4⟩
theorem PT.drewN (h : PT w b m) (j : Nat) : PT (w.drewN j) b m := h
theorem PT.empty {n : Int} (h : w.heap[b]? = some (.cells (zcells (tsz n : Int)) 39 (0, 0))) : PT w b (tnew n) := by
  rw [zcells_eq] at h
  exact ⟨_, 0, tnew_ok n, by decide, h, fun e => (by cases e), fun _ => rfl⟩
theorem PT.cleared (h1 : m.ok) (h : w.heap[b]? = some (.cells (zcells (m.S : Int)) 39 (0, 0))) : PT w b m.clear := by
  rw [zcells_eq] at h
  exact ⟨_, 0, Tb.clear_ok h1, by decide, h, fun e => (by cases e), fun _ => rfl⟩
end
theorem built_some (n : Int) : (Try.prog.built 39 [(0, .int .u32 n)]).isSome = true := by kernel_rfl
theorem built_eq (n : Int) : (Try.prog.built 39 [(0, .int .u32 n)]).getD #[] = zcells n := by kernel_rfl
end Go.Proofs.Ytfhlogkdmjdpdaa

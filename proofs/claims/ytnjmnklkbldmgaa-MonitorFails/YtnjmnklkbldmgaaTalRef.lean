/- A Window of the reference in memory: its cells, its row of bools; New, Clear, Bad, Sum. No condition. -/
import Derived.Test.YtnjmnklkbldmgaaTalCode
namespace Go.Proofs.Ytnjmnklkbldmgaa
open Go.RowKit
set_option linter.unusedVariables false

/-- The slice value at A, of l.length elements, reads as the bools l. -/
def RdB (w : World) (A : Option Addr) (l : List Bool) : Prop :=
  l ≠ [] → ∃ b off, A = some ⟨b, off, none⟩ ∧ ∀ j, j < l.length → w.cell? ⟨b, off + j, none⟩ = some (.bool (l.getD j false))
theorem RdB.nil (w : World) (A : Option Addr) : RdB w A [] := fun h => absurd rfl h
theorem RdB.at_ {w : World} {A : Option Addr} {l : List Bool} (h : RdB w A l) {k : Nat} (hk : k < l.length) :
    ∃ b off, A = some ⟨b, off, none⟩ ∧ b < w.heap.size ∧ w.cell? ⟨b, off + k, none⟩ = some (.bool (l.getD k false)) := by
  obtain ⟨b, off, e, hc⟩ := h (by rintro rfl; simp at hk)
  exact ⟨b, off, e, World.block_lt_of_cell? w _ (hc k hk), hc k hk⟩
theorem RdB.only {F : Nat → Prop} {w w' : World} {A : Option Addr} {l : List Bool} (h : RdB w A l) (o : Only F w w') (hF : ∀ k, blk A = some k → ¬ F k) : RdB w' A l := fun hl => by
  obtain ⟨b, off, e, hc⟩ := h hl
  refine ⟨b, off, e, fun j hj => ?_⟩
  have hb := World.block_lt_of_cell? w _ (hc j hj)
  rw [← hc j hj]
  exact World.cell?_of_block (w := w) (o.block b hb (hF b (by rw [e]; rfl)))
theorem RdB.below {w w' : World} {A : Option Addr} {l : List Bool} (h : RdB w A l) (b : Below w.heap.size w w') : RdB w' A l := h.only (F := fun _ => False) (Only.of_below _ b) (fun _ _ h => h)

/-- the cells of a window of the reference -/
def vcells (n : Nat) (A : Option Addr) (m c : Nat) : Array Value := #[.int .i64 (n : Int), .slice A m c]
/-- The block b holds a window of the reference of at most n events; it holds l; its row lies from base on. -/
def RW (w : World) (base b n : Nat) (l : List Bool) : Prop :=
  ∃ A c, w.heap[b]? = some (.cells (vcells n A l.length c) 59 (0, 0)) ∧ RdB w A l ∧ (l = [] → A = none ∧ c = 0) ∧ l.length ≤ n ∧ b < base ∧ ∀ k, blk A = some k → base ≤ k
theorem RW.lt {w : World} {base b n : Nat} {l : List Bool} (h : RW w base b n l) : b < w.heap.size := by
  obtain ⟨_, _, h, _⟩ := h
  exact lt_of_block h
theorem RW.only {F : Nat → Prop} {w w' : World} {base b n : Nat} {l : List Bool} (h : RW w base b n l) (o : Only F w w') (hF : ∀ k, F k → k < base) (hb : ¬ F b) : RW w' base b n l := by
  have hlt := h.lt
  obtain ⟨A, c, h1, h2, h3, h4, h5, h6⟩ := h
  exact ⟨A, c, (o.block b hlt hb).trans h1, h2.only o (fun k hk hf => by have := hF k hf; have := h6 k hk; omega), h3, h4, h5, h6⟩
theorem vcell {w : World} {b n : Nat} {A : Option Addr} {m c : Nat} {t : TypeId} (h : w.heap[b]? = some (.cells (vcells n A m c) t (0, 0))) :
    w.cell? ⟨b, 0, none⟩ = some (.int .i64 (n : Int)) ∧ w.cell? ⟨b, 1, none⟩ = some (.slice A m c) := by
  refine ⟨?_, ?_⟩ <;> rw [cell_of_row w b _ _ _ (0, 0) h] <;> rfl
theorem vset {w : World} {b n : Nat} {A : Option Addr} {m c : Nat} {t : TypeId} (h : w.heap[b]? = some (.cells (vcells n A m c) t (0, 0))) (A' : Option Addr) (m' c' : Nat) :
    (w.setCell ⟨b, 1, none⟩ (.slice A' m' c')).heap[b]? = some (.cells (vcells n A' m' c') t (0, 0)) := heap_setCell_same w b 1 _ t _ h

theorem newWindow_calls (n : Int) (w : World) : Calls Try.prog 23 #[.int .i64 n] w fun e w' => e = .returned (.pointer (some ⟨w.heap.size, 0, none⟩)) ∧ w.alloc (.cells (vcells (siz n) none 0 0) 59) = w' := by
  have h2 := Lib.hid (siz_int n)
  go_enter Try.func23, Try.ntmps23
  go_wp2_with fail
  refine (cut_calls n 1 1000 (by decide) w).mono ?_
  rintro e w' ⟨rfl, rfl⟩
  rw [h2.out]
  go_wp2
  go_ret
  exact ⟨rfl, rfl⟩
theorem refClear_calls {w : World} {base b n : Nat} {l : List Bool} (h : RW w base b n l) : Calls Try.prog 29 #[.pointer (some ⟨b, 0, none⟩)] w fun e w' => e = .returned (.tuple #[]) ∧ RW w' base b n [] ∧ Only (fun k => k = b) w w' := by
  obtain ⟨A, c, h1, h2, h3, h4, h5, h6⟩ := h
  obtain ⟨_, c1⟩ := vcell h1
  have z1 := frozen_of_row w b 1 _ _ h1
  have FIN := Lib.hid (show RW (w.setCell ⟨b, 1, none⟩ (.slice none 0 0)) base b n [] ∧ Only (fun k => k = b) w (w.setCell ⟨b, 1, none⟩ (.slice none 0 0)) from
    ⟨⟨none, 0, vset h1 none 0 0, RdB.nil _ _, fun _ => ⟨rfl, rfl⟩, Nat.zero_le _, h5, fun k hk => by cases hk⟩, only_put (Only.refl _ w) _ _⟩)
  clear h1 h2 h3 h4 h5 h6
  go_enter Try.func29, Try.ntmps29
  go_wp2
  go_end0
  exact ⟨rfl, FIN.out⟩

/-- the events as they are kept; how many are good, how many bad -/
def gl (l : List Bool) : Int := gs (l.map code)
def bl (l : List Bool) : Int := bs (l.map code)
theorem gl_bl (l : List Bool) : gl l + bl l = l.length := by
  induction l with
  | nil => rfl
  | cons x l ih =>
    unfold gl bl at *
    rw [List.map_cons, gs_cons, bs_cons, List.length_cons]
    have : gd (code x) + bd (code x) = 1 := by cases x <;> rfl
    omega
theorem bl_range (l : List Bool) : 0 ≤ bl l ∧ bl l ≤ l.length := by
  have := bs_range (l.map code)
  rw [List.length_map] at this
  exact this
theorem gl_range (l : List Bool) : 0 ≤ gl l ∧ gl l ≤ l.length := by
  have := gs_range (l.map code)
  rw [List.length_map] at this
  exact this
theorem bl_take {l : List Bool} {k : Nat} (hk : k < l.length) : bl (l.take (k + 1)) = bl (l.take k) + (if l.getD k false then 0 else 1) := by
  unfold bl
  rw [List.take_succ_eq_append_getElem hk, List.map_append, bs_app]
  have : l.getD k false = l[k] := by simp [hk]
  rw [this]
  cases l[k] <;> rfl
end Go.Proofs.Ytnjmnklkbldmgaa

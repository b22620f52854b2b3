/- A Window of the program in memory: its cells, New, Sum, Clear. No condition. -/
import Derived.Test.YtnjmnklkbldmgaaTalSmall
import Derived.Test.YtnjmnklkbldmgaaMemOnly
import Derived.Laws.Tables
namespace Go.Proofs.Ytnjmnklkbldmgaa
open Go.RowKit
set_option linter.unusedVariables false

theorem store_complex (P : Program) (w : World) (a : Addr) (m : Mode) (k : FloatKind) (x y : Nat) : (store a (.complex k x y) m).run P w = stored P w a (.complex k x y) m := run_store P w a _ m rfl
/-- the value of an event -/
def ew (e : Nat) : Value := .int .u8 (e : Int)
/-- the cells of a window of the program -/
def wcells (n : Nat) (ev : List Nat) (next : Nat) (g d : Int) : Array Value := (Value.int .i64 (n : Int) :: (ev.map ew ++ [Value.int .i64 (next : Int), cx g d])).toArray
def zcells (n : Int) : Array Value := (Value.int .i64 n :: (List.replicate 1000 (Value.int .u8 0) ++ [Value.int .i64 0, .complex .f64 0 0])).toArray
theorem zcells_eq (n : Nat) : zcells (n : Int) = wcells n (List.replicate 1000 0) 0 0 0 := by
  unfold zcells wcells
  rw [cx_zero, List.map_replicate]
  rfl
theorem built_some (n : Int) : (Try.prog.built 46 [(0, .int .i64 n)]).isSome = true := by kernel_rfl
theorem built_eq (n : Int) : (Try.prog.built 46 [(0, .int .i64 n)]).getD #[] = zcells n := by kernel_rfl
/-- a new window, built -/
theorem wpList_window {ops : Array Oper} {rest : List Oper} {o : Oper} {a : Act} {w : World} {Q : Exit → Act → World → Prop} (hg : o.guard = none) (x : Operand) (ho : o.op = .build 46 #[(0, x)])
    (n : Int) (hx : a.eval x = .int .i64 n) (h : wpList Try.prog ops Q rest (a.put o.dst (.agg (zcells n))) w) : wpList Try.prog ops Q (o :: rest) a w := by
  refine wpList_build hg _ _ ho ?_ ?_
  · simp only [List.map_toArray, List.map_cons, List.map_nil, hx]
    exact built_some n
  · simp only [List.map_toArray, List.map_cons, List.map_nil, hx]
    rw [show (Try.prog.built 46 [(0, Value.int .i64 n)]).getD #[] = zcells n from built_eq n]
    exact h

section
variable {w : World} {b n next : Nat} {ev : List Nat} {g d : Int} {t : TypeId}
theorem wcell (hl : ev.length = 1000) (h : w.heap[b]? = some (.cells (wcells n ev next g d) t (0, 0))) :
    w.cell? ⟨b, 0, none⟩ = some (.int .i64 (n : Int)) ∧ w.cell? ⟨b, 1001, none⟩ = some (.int .i64 (next : Int)) ∧ w.cell? ⟨b, 1002, none⟩ = some (cx g d) ∧ ∀ j e, ev[j]? = some e → w.cell? ⟨b, 1 + j, none⟩ = some (ew e) := by
  have hl' : (ev.map ew).length = 1000 := by simpa using hl
  refine ⟨?_, ?_, ?_, fun j e he => ?_⟩ <;> rw [cell_of_row w b _ _ _ (0, 0) h] <;> unfold wcells <;> rw [List.getElem?_toArray]
  · rfl
  · rw [List.getElem?_cons_succ, List.getElem?_append_right (by omega), hl']; rfl
  · rw [List.getElem?_cons_succ, List.getElem?_append_right (by omega), hl']; rfl
  · have hj : j < ev.length := (List.getElem?_eq_some_iff.1 he).1
    rw [Nat.add_comm, List.getElem?_cons_succ, List.getElem?_append_left (by omega), List.getElem?_map, he]; rfl
theorem wset_sum (hl : ev.length = 1000) (h : w.heap[b]? = some (.cells (wcells n ev next g d) t (0, 0))) (g' d' : Int) : (w.setCell ⟨b, 1002, none⟩ (cx g' d')).heap[b]? = some (.cells (wcells n ev next g' d') t (0, 0)) := by
  have hl' : (ev.map ew).length = 1000 := by simpa using hl
  rw [heap_setCell_same w b 1002 _ t _ h]
  unfold wcells
  rw [List.setIfInBounds_toArray, List.set_cons_succ, List.set_append_right _ _ (by omega), hl']
  rfl
theorem wset_next (hl : ev.length = 1000) (h : w.heap[b]? = some (.cells (wcells n ev next g d) t (0, 0))) (m : Nat) : (w.setCell ⟨b, 1001, none⟩ (.int .i64 (m : Int))).heap[b]? = some (.cells (wcells n ev m g d) t (0, 0)) := by
  have hl' : (ev.map ew).length = 1000 := by simpa using hl
  rw [heap_setCell_same w b 1001 _ t _ h]
  unfold wcells
  rw [List.setIfInBounds_toArray, List.set_cons_succ, List.set_append_right _ _ (by omega), hl']
  rfl
theorem wset_ev (hl : ev.length = 1000) (h : w.heap[b]? = some (.cells (wcells n ev next g d) t (0, 0))) (j e : Nat) (hj : j < 1000) : (w.setCell ⟨b, 1 + j, none⟩ (ew e)).heap[b]? = some (.cells (wcells n (ev.set j e) next g d) t (0, 0)) := by
  have hl' : (ev.map ew).length = 1000 := by simpa using hl
  rw [heap_setCell_same w b (1 + j) _ t _ h]
  unfold wcells
  rw [List.setIfInBounds_toArray, Nat.add_comm, List.set_cons_succ, List.set_append_left _ _ (by omega), List.map_set]
end

/-- how many of the places hold a good event, a bad one -/
def gs (q : List Nat) : Int := (q.map gd).sum
def bs (q : List Nat) : Int := (q.map bd).sum
theorem gs_cons (e : Nat) (q : List Nat) : gs (e :: q) = gd e + gs q := rfl
theorem bs_cons (e : Nat) (q : List Nat) : bs (e :: q) = bd e + bs q := rfl
theorem gs_nil : gs [] = 0 := rfl
theorem bs_nil : bs [] = 0 := rfl
theorem gs_app (p q : List Nat) : gs (p ++ q) = gs p + gs q := by
  induction p with
  | nil => simp [gs_nil]
  | cons e p ih => rw [List.cons_append, gs_cons, gs_cons, ih]; omega
theorem bs_app (p q : List Nat) : bs (p ++ q) = bs p + bs q := by
  induction p with
  | nil => simp [bs_nil]
  | cons e p ih => rw [List.cons_append, bs_cons, bs_cons, ih]; omega
theorem gd_range (e : Nat) : 0 ≤ gd e ∧ gd e ≤ 1 := by unfold gd; split <;> decide
theorem bd_range (e : Nat) : 0 ≤ bd e ∧ bd e ≤ 1 := by unfold bd; split <;> decide
theorem gs_range (q : List Nat) : 0 ≤ gs q ∧ gs q ≤ q.length := by
  induction q with
  | nil => decide
  | cons e q ih => have := gd_range e; rw [gs_cons, List.length_cons]; omega
theorem bs_range (q : List Nat) : 0 ≤ bs q ∧ bs q ≤ q.length := by
  induction q with
  | nil => decide
  | cons e q ih => have := bd_range e; rw [bs_cons, List.length_cons]; omega
theorem gs_zero (k : Nat) : gs (List.replicate k 0) = 0 := by
  induction k with
  | zero => rfl
  | succ k ih => rw [List.replicate_succ, gs_cons, ih]; rfl
theorem bs_zero (k : Nat) : bs (List.replicate k 0) = 0 := by
  induction k with
  | zero => rfl
  | succ k ih => rw [List.replicate_succ, bs_cons, ih]; rfl

/-- The block b holds a window of the program of n places, which hold q, the oldest first. -/
def PW (w : World) (b n : Nat) (q : List Nat) : Prop :=
  ∃ A B R : List Nat, q = B ++ A ∧ B ≠ [] ∧ q.length = n ∧ (A ++ (B ++ R)).length = 1000 ∧ (∀ e ∈ q, e ≤ 2) ∧ w.heap[b]? = some (.cells (wcells n (A ++ (B ++ R)) A.length (gs q) (bs q)) 46 (0, 0))
theorem PW.lt {w : World} {b n : Nat} {q : List Nat} (h : PW w b n q) : b < w.heap.size := by
  obtain ⟨_, _, _, _, _, _, _, _, h⟩ := h
  exact lt_of_block h
theorem PW.only {F : Nat → Prop} {w w' : World} {b n : Nat} {q : List Nat} (h : PW w b n q) (o : Only F w w') (hF : ¬ F b) : PW w' b n q := by
  have hlt := h.lt
  obtain ⟨A, B, R, h1, h2, h3, h4, h5, h6⟩ := h
  exact ⟨A, B, R, h1, h2, h3, h4, h5, (o.block b hlt hF).trans h6⟩
/-- an empty window -/
theorem PW.empty {w : World} {b n : Nat} (h1 : 1 ≤ n) (h2 : n ≤ 1000) (h : w.heap[b]? = some (.cells (zcells (n : Int)) 46 (0, 0))) : PW w b n (List.replicate n 0) := by
  refine ⟨[], List.replicate n 0, List.replicate (1000 - n) 0, by simp, by rw [ne_eq, List.replicate_eq_nil_iff]; omega, by simp, by simp; omega, fun e he => by rw [(List.mem_replicate.1 he).2]; decide, ?_⟩
  rw [h, zcells_eq, gs_zero, bs_zero, List.nil_append, List.replicate_append_replicate, show n + (1000 - n) = 1000 by omega]
  rfl

/-- how many events a window keeps -/
def siz (n : Int) : Nat := (min (max n 1) 1000).toNat
theorem siz_le (n : Int) : 1 ≤ siz n ∧ siz n ≤ 1000 := by unfold siz; omega
theorem siz_int (n : Int) : min (max n 1) 1000 = (siz n : Int) := by unfold siz; omega
theorem new_calls (n : Int) (w : World) : Calls Try.prog 21 #[.int .i64 n] w fun e w' => e = .returned (.pointer (some ⟨w.heap.size, 0, none⟩)) ∧ w.alloc (.cells (zcells (siz n : Int)) 46) = w' := by
  have h2 := Lib.hid (siz_int n)
  have hn : n < 1 ∨ 1000 < n ∨ (1 ≤ n ∧ n ≤ 1000) := by omega
  rcases hn with hn | hn | ⟨hn, hn'⟩
  all_goals
    go_enter Try.func21, Try.ntmps21
    go_wp2_with (refine wpList_window rfl _ rfl _ rfl ?_)
    go_ret
    refine ⟨rfl, ?_⟩
    rw [← h2.out]
    congr
    omega
end Go.Proofs.Ytnjmnklkbldmgaa

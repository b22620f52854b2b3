/- A window of the program that lies inside a monitor: its cells, Sum, Clear. No condition. -/
import Derived.Test.YtnjmnklkbldmgaaTalCode
import Derived.Laws.Rows
import Derived.Laws.IdiomCopy
namespace Go.Proofs.Ytnjmnklkbldmgaa
open Go.RowKit
set_option linter.unusedVariables false

/-- what stands around the window -/
structure Ar where
  a0 : Value
  a1 : Value
  a2 : Value
  p0 : Value
  p1 : Value
/-- the cells of a block that holds a window from its fourth place on -/
def xcells (o : Ar) (n : Nat) (ev : List Nat) (next : Nat) (g d : Int) : Array Value := (o.a0 :: o.a1 :: o.a2 :: Value.int .i64 (n : Int) :: (ev.map ew ++ [Value.int .i64 (next : Int), cx g d, o.p0, o.p1])).toArray
section
variable {w : World} {b n next : Nat} {ev : List Nat} {g d : Int} {t : TypeId} {o : Ar}
theorem xcell (hl : ev.length = 1000) (h : w.heap[b]? = some (.cells (xcells o n ev next g d) t (0, 0))) :
    w.cell? ⟨b, 3, none⟩ = some (.int .i64 (n : Int)) ∧ w.cell? ⟨b, 1004, none⟩ = some (.int .i64 (next : Int)) ∧ w.cell? ⟨b, 1005, none⟩ = some (cx g d) ∧ ∀ j e, ev[j]? = some e → w.cell? ⟨b, 4 + j, none⟩ = some (ew e) := by
  have hl' : (ev.map ew).length = 1000 := by simpa using hl
  refine ⟨?_, ?_, ?_, fun j e he => ?_⟩ <;> rw [cell_of_row w b _ _ _ (0, 0) h] <;> unfold xcells <;> rw [List.getElem?_toArray]
  · rfl
  · rw [List.getElem?_cons_succ, List.getElem?_cons_succ, List.getElem?_cons_succ, List.getElem?_cons_succ, List.getElem?_append_right (by omega), hl']; rfl
  · rw [List.getElem?_cons_succ, List.getElem?_cons_succ, List.getElem?_cons_succ, List.getElem?_cons_succ, List.getElem?_append_right (by omega), hl']; rfl
  · have hj : j < ev.length := (List.getElem?_eq_some_iff.1 he).1
    rw [Nat.add_comm, List.getElem?_cons_succ, List.getElem?_cons_succ, List.getElem?_cons_succ, List.getElem?_cons_succ, List.getElem?_append_left (by omega), List.getElem?_map, he]; rfl
/-- the places around the window -/
theorem xround (hl : ev.length = 1000) (h : w.heap[b]? = some (.cells (xcells o n ev next g d) t (0, 0))) :
    w.cell? ⟨b, 0, none⟩ = some o.a0 ∧ w.cell? ⟨b, 1, none⟩ = some o.a1 ∧ w.cell? ⟨b, 2, none⟩ = some o.a2 ∧ w.cell? ⟨b, 1006, none⟩ = some o.p0 ∧ w.cell? ⟨b, 1007, none⟩ = some o.p1 := by
  have hl' : (ev.map ew).length = 1000 := by simpa using hl
  refine ⟨?_, ?_, ?_, ?_, ?_⟩ <;> rw [cell_of_row w b _ _ _ (0, 0) h] <;> unfold xcells <;> rw [List.getElem?_toArray]
  · rfl
  · rfl
  · rfl
  · rw [List.getElem?_cons_succ, List.getElem?_cons_succ, List.getElem?_cons_succ, List.getElem?_cons_succ, List.getElem?_append_right (by omega), hl']; rfl
  · rw [List.getElem?_cons_succ, List.getElem?_cons_succ, List.getElem?_cons_succ, List.getElem?_cons_succ, List.getElem?_append_right (by omega), hl']; rfl
theorem xset_sum (hl : ev.length = 1000) (h : w.heap[b]? = some (.cells (xcells o n ev next g d) t (0, 0))) (g' d' : Int) : (w.setCell ⟨b, 1005, none⟩ (cx g' d')).heap[b]? = some (.cells (xcells o n ev next g' d') t (0, 0)) := by
  have hl' : (ev.map ew).length = 1000 := by simpa using hl
  rw [heap_setCell_same w b 1005 _ t _ h]
  unfold xcells
  rw [List.setIfInBounds_toArray, List.set_cons_succ, List.set_cons_succ, List.set_cons_succ, List.set_cons_succ, List.set_append_right _ _ (by omega), hl']
  rfl
theorem xset_next (hl : ev.length = 1000) (h : w.heap[b]? = some (.cells (xcells o n ev next g d) t (0, 0))) (m : Nat) : (w.setCell ⟨b, 1004, none⟩ (.int .i64 (m : Int))).heap[b]? = some (.cells (xcells o n ev m g d) t (0, 0)) := by
  have hl' : (ev.map ew).length = 1000 := by simpa using hl
  rw [heap_setCell_same w b 1004 _ t _ h]
  unfold xcells
  rw [List.setIfInBounds_toArray, List.set_cons_succ, List.set_cons_succ, List.set_cons_succ, List.set_cons_succ, List.set_append_right _ _ (by omega), hl']
  rfl
theorem xset_p0 (hl : ev.length = 1000) (h : w.heap[b]? = some (.cells (xcells o n ev next g d) t (0, 0))) (v : Value) : (w.setCell ⟨b, 1006, none⟩ v).heap[b]? = some (.cells (xcells { o with p0 := v } n ev next g d) t (0, 0)) := by
  have hl' : (ev.map ew).length = 1000 := by simpa using hl
  rw [heap_setCell_same w b 1006 _ t _ h]
  unfold xcells
  rw [List.setIfInBounds_toArray, List.set_cons_succ, List.set_cons_succ, List.set_cons_succ, List.set_cons_succ, List.set_append_right _ _ (by omega), hl']
  rfl
theorem xset_p1 (hl : ev.length = 1000) (h : w.heap[b]? = some (.cells (xcells o n ev next g d) t (0, 0))) (v : Value) : (w.setCell ⟨b, 1007, none⟩ v).heap[b]? = some (.cells (xcells { o with p1 := v } n ev next g d) t (0, 0)) := by
  have hl' : (ev.map ew).length = 1000 := by simpa using hl
  rw [heap_setCell_same w b 1007 _ t _ h]
  unfold xcells
  rw [List.setIfInBounds_toArray, List.set_cons_succ, List.set_cons_succ, List.set_cons_succ, List.set_cons_succ, List.set_append_right _ _ (by omega), hl']
  rfl
theorem xset_a2 (h : w.heap[b]? = some (.cells (xcells o n ev next g d) t (0, 0))) (v : Value) : (w.setCell ⟨b, 2, none⟩ v).heap[b]? = some (.cells (xcells { o with a2 := v } n ev next g d) t (0, 0)) := by
  rw [heap_setCell_same w b 2 _ t _ h]
  rfl
theorem xset_ev (hl : ev.length = 1000) (h : w.heap[b]? = some (.cells (xcells o n ev next g d) t (0, 0))) (j e : Nat) (hj : j < 1000) : (w.setCell ⟨b, 4 + j, none⟩ (ew e)).heap[b]? = some (.cells (xcells o n (ev.set j e) next g d) t (0, 0)) := by
  have hl' : (ev.map ew).length = 1000 := by simpa using hl
  rw [heap_setCell_same w b (4 + j) _ t _ h]
  unfold xcells
  rw [List.setIfInBounds_toArray, Nat.add_comm, List.set_cons_succ, List.set_cons_succ, List.set_cons_succ, List.set_cons_succ, List.set_append_left _ _ (by omega), List.map_set]
end
/-- The block b holds a window of n places, which hold q, the oldest first, and o around it. -/
def XW (w : World) (b : Nat) (o : Ar) (n : Nat) (q : List Nat) : Prop :=
  ∃ A B R : List Nat, q = B ++ A ∧ B ≠ [] ∧ q.length = n ∧ (A ++ (B ++ R)).length = 1000 ∧ (∀ e ∈ q, e ≤ 2) ∧ w.heap[b]? = some (.cells (xcells o n (A ++ (B ++ R)) A.length (gs q) (bs q)) 50 (0, 0))
section
variable {w : World} {b n : Nat} {o : Ar} {q : List Nat}
theorem XW.lt (h : XW w b o n q) : b < w.heap.size := by
  obtain ⟨_, _, _, _, _, _, _, _, h⟩ := h
  exact lt_of_block h
theorem XW.only {F : Nat → Prop} {w' : World} (h : XW w b o n q) (k : Only F w w') (hF : ¬ F b) : XW w' b o n q := by
  have hlt := h.lt
  obtain ⟨A, B, R, h1, h2, h3, h4, h5, h6⟩ := h
  exact ⟨A, B, R, h1, h2, h3, h4, h5, (k.block b hlt hF).trans h6⟩
theorem XW.round (h : XW w b o n q) : w.cell? ⟨b, 0, none⟩ = some o.a0 ∧ w.cell? ⟨b, 1, none⟩ = some o.a1 ∧ w.cell? ⟨b, 2, none⟩ = some o.a2 ∧ w.cell? ⟨b, 1006, none⟩ = some o.p0 ∧ w.cell? ⟨b, 1007, none⟩ = some o.p1 := by
  obtain ⟨A, B, R, h1, h2, h3, h4, h5, h6⟩ := h
  exact xround h4 h6
theorem XW.frozen (h : XW w b o n q) (j : Nat) : w.frozen? ⟨b, j, none⟩ = false := by
  obtain ⟨A, B, R, h1, h2, h3, h4, h5, h6⟩ := h
  exact frozen_of_row w b j _ _ h6
theorem XW.setP0 (h : XW w b o n q) (v : Value) : XW (w.setCell ⟨b, 1006, none⟩ v) b { o with p0 := v } n q := by
  obtain ⟨A, B, R, h1, h2, h3, h4, h5, h6⟩ := h
  exact ⟨A, B, R, h1, h2, h3, h4, h5, xset_p0 h4 h6 v⟩
theorem XW.setP1 (h : XW w b o n q) (v : Value) : XW (w.setCell ⟨b, 1007, none⟩ v) b { o with p1 := v } n q := by
  obtain ⟨A, B, R, h1, h2, h3, h4, h5, h6⟩ := h
  exact ⟨A, B, R, h1, h2, h3, h4, h5, xset_p1 h4 h6 v⟩
theorem XW.setA2 (h : XW w b o n q) (v : Value) : XW (w.setCell ⟨b, 2, none⟩ v) b { o with a2 := v } n q := by
  obtain ⟨A, B, R, h1, h2, h3, h4, h5, h6⟩ := h
  exact ⟨A, B, R, h1, h2, h3, h4, h5, xset_a2 h6 v⟩
/-- an empty window -/
theorem XW.empty (h1 : 1 ≤ n) (h2 : n ≤ 1000) (h : w.heap[b]? = some (.cells (xcells o n (List.replicate 1000 0) 0 0 0) 50 (0, 0))) : XW w b o n (List.replicate n 0) := by
  refine ⟨[], List.replicate n 0, List.replicate (1000 - n) 0, by simp, by rw [ne_eq, List.replicate_eq_nil_iff]; omega, by simp, by simp; omega, fun e he => by rw [(List.mem_replicate.1 he).2]; decide, ?_⟩
  rw [h, gs_zero, bs_zero, List.nil_append, List.replicate_append_replicate, show n + (1000 - n) = 1000 by omega]
  rfl
end
/-- a part of a block written over -/
theorem setCells_mid (g : Nat) (t : TypeId) : ∀ (vs mid pre post : List Value) (w : World), vs.length = mid.length → w.heap[g]? = some (.cells (pre ++ (mid ++ post)).toArray t (0, 0)) → (w.setCells g pre.length vs).heap[g]? = some (.cells (pre ++ (vs ++ post)).toArray t (0, 0))
  | [], [], _, _, _, _, h => h
  | v :: vs, m :: mid, pre, post, w, hl, h => by
    have h1 := heap_setCell_same w g pre.length _ t v h
    rw [List.setIfInBounds_toArray, List.set_append_right _ _ (Nat.le_refl _), Nat.sub_self] at h1
    have := setCells_mid g t vs mid (pre ++ [v]) post (w.setCell ⟨g, pre.length, none⟩ v) (by simpa using hl) (by rw [h1]; simp)
    rw [World.setCells]
    simpa using this
theorem only_setCells (w : World) (g : Nat) : ∀ (vs : List Value) (o : Nat), Only (fun k => k = g) w (w.setCells g o vs) := by
  intro vs
  induction vs generalizing w with
  | nil => exact fun o => Only.refl _ w
  | cons v r ih =>
    intro o
    have h1 : Only (fun k => k = g) w (w.setCell ⟨g, o, none⟩ v) := only_put (Only.refl _ w) o v
    exact h1.trans (ih (w.setCell ⟨g, o, none⟩ v) (o + 1)) (fun _ _ h => h)
theorem zcells_one (n : Int) : (zcells n).all (·.oneCell') = true := by kernel_rfl
theorem zcells_size (n : Int) : (zcells n).size = 1003 := by kernel_rfl
theorem window_size : (Try.prog.info? 46).map (·.size) = some 1003 := by kernel_rfl
theorem run_storeVar_part (w : World) (b : Nat) (n : Int) (old : Array Value) (t : TypeId) (hb : w.heap[b]? = some (.cells old t (0, 0))) (hs : old.size = 1008) :
    (storeVar 46 ⟨b, 3, none⟩ (.agg (zcells n))).run Try.prog w = .ok () (w.setCells b 3 (zcells n).toList) := by
  have hz := zcells_size n
  have hlen : (zcells n).toList.length = 1003 := by simpa using hz
  have := run_storeCells_cells (P := Try.prog) b 3 (zcells n).toList 0 w (fun j hj => by rw [cell_of_row w b _ _ _ (0, 0) hb]; simp; omega) (fun j hj => frozen_of_row w b _ _ _ hb) (fun v hv => (Array.all_eq_true_iff_forall_mem.1 (zcells_one n)) v (by simpa using hv))
  have hi := window_size
  cases hq : Try.prog.info? 46 with
  | none => rw [hq] at hi; simp at hi
  | some i =>
    have hs : (zcells n).size = i.size := by rw [hq] at hi; simp at hi; omega
    simp [storeVar, sizeOf, typeInfo, hq, Value.cells, hs, this]
/-- a new window, built, its cells unseen -/
theorem wpList_windowZ {ops : Array Oper} {rest : List Oper} {o : Oper} {a : Act} {w : World} {Q : Exit → Act → World → Prop} (hg : o.guard = none) (x : Operand) (ho : o.op = .build 46 #[(0, x)])
    (n : Int) (Z : Array Value) (hZ : Hid (zcells n = Z)) (hx : a.eval x = .int .i64 n) (h : wpList Try.prog ops Q rest (a.put o.dst (.agg Z)) w) : wpList Try.prog ops Q (o :: rest) a w := by
  have hZ := hZ.out
  subst hZ
  exact wpList_window hg x ho n hx h
/-- a whole window stored inside a block -/
theorem wpList_clearX {ops : Array Oper} {rest : List Oper} {o : Oper} {a : Act} {w : World} {Q : Exit → Act → World → Prop} (hgd : o.guard = none) (x y : Operand) (ho : o.op = .store 46 x y)
    (b : Nat) (n : Int) (Z : Array Value) (hZ : Hid (zcells n = Z)) (hx : a.eval x = .pointer (some ⟨b, 3, none⟩)) (hy : a.eval y = .agg Z) (old : Array Value) (t : TypeId) (hb : w.heap[b]? = some (.cells old t (0, 0))) (hs : old.size = 1008)
    (h : wpList Try.prog ops Q rest (a.put o.dst undef) (w.setCells b 3 Z.toList)) : wpList Try.prog ops Q (o :: rest) a w :=
  wpList_plain hgd fun _ hK => by
    have hZ := hZ.out
    subst hZ
    unfold Oper.wp execOp
    simp only [ho, hx, hy, Instr.storeAt, Instr.sureAddr, Sem.run_bind, Sem.run_pure, Result.andThen_ok, run_storeVar_part w b n old t hb hs]
    exact hK _ _ h
theorem xcells_size {o : Ar} {n next : Nat} {ev : List Nat} {g d : Int} (h : ev.length = 1000) : (xcells o n ev next g d).size = 1008 := by unfold xcells; simp [h]
theorem xclear_mem {w : World} {b n : Nat} {o : Ar} {q : List Nat} (h : XW w b o n q) (hn : 1 ≤ n ∧ n ≤ 1000) : XW (w.setCells b 3 (zcells (n : Int)).toList) b o n (List.replicate n 0) := by
  obtain ⟨A, B, R, h1, h2, h3, h4, h5, h6⟩ := h
  refine XW.empty hn.1 hn.2 ?_
  have h6' : w.heap[b]? = some (.cells ([o.a0, o.a1, o.a2] ++ ((Value.int .i64 (n : Int) :: ((A ++ (B ++ R)).map ew ++ [Value.int .i64 (A.length : Int), cx (gs q) (bs q)])) ++ [o.p0, o.p1])).toArray 50 (0, 0)) := by
    rw [h6]
    unfold xcells
    simp
  have hz := zcells_size (n : Int)
  have key := setCells_mid b 50 (zcells (n : Int)).toList _ [o.a0, o.a1, o.a2] [o.p0, o.p1] w (by
    rw [List.length_cons, List.length_append, List.length_map, h4]
    simpa using hz) h6'
  rw [show [o.a0, o.a1, o.a2].length = 3 from rfl] at key
  rw [key, zcells_eq]
  generalize List.replicate 1000 0 = R0
  unfold wcells xcells
  simp
theorem xsum_calls {w : World} {b n : Nat} {o : Ar} {q : List Nat} (h : XW w b o n q) : Calls Try.prog 30 #[.pointer (some ⟨b, 3, none⟩)] w fun e w' => e = .returned (cx (gs q) (bs q)) ∧ w' = w := by
  obtain ⟨A, B, R, h1, h2, h3, h4, h5, h6⟩ := h
  obtain ⟨_, _, c2, _⟩ := xcell h4 h6
  clear h1 h2 h3 h4 h5 h6
  go_enter Try.func30, Try.ntmps30
  go_wp2
  go_ret
  exact ⟨rfl, rfl⟩
theorem xclear_calls {w : World} {b n : Nat} {o : Ar} {q : List Nat} (h : XW w b o n q) (hn : 1 ≤ n ∧ n ≤ 1000) : Calls Try.prog 35 #[.pointer (some ⟨b, 3, none⟩)] w fun e w' => e = .returned (.tuple #[]) ∧ XW w' b o n (List.replicate n 0) ∧ Only (fun k => k = b) w w' := by
  have FIN := Lib.hid (show XW (w.setCells b 3 (zcells (n : Int)).toList) b o n (List.replicate n 0) ∧ Only (fun k => k = b) w (w.setCells b 3 (zcells (n : Int)).toList) from
    ⟨xclear_mem h hn, only_setCells w b _ 3⟩)
  obtain ⟨A, B, R, h1, h2, h3, h4, h5, h6⟩ := h
  obtain ⟨c0, _⟩ := xcell h4 h6
  have hs := xcells_size (o := o) (n := n) (next := A.length) (g := gs q) (d := bs q) h4
  clear h1 h2 h3 h4 h5 hn
  have H6 := Lib.hid h6
  have HS := Lib.hid hs
  clear h6 hs
  obtain ⟨Z, hZ⟩ : ∃ Z, zcells (n : Int) = Z := ⟨_, rfl⟩
  rw [hZ] at FIN
  have HZ := Lib.hid hZ
  clear hZ
  go_enter Try.func35, Try.ntmps35
  go_wp2_with (first | refine wpList_windowZ rfl _ rfl _ Z HZ rfl ?_ | refine wpList_clearX rfl _ _ rfl _ _ Z HZ rfl rfl _ _ H6.out HS.out ?_)
  go_end0
  exact ⟨rfl, FIN.out⟩
end Go.Proofs.Ytnjmnklkbldmgaa

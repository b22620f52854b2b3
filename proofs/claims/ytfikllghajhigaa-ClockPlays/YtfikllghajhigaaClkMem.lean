/- A clock in memory: its cells; the small functions of the program and of the reference. No condition. -/
import Derived.Test.YtfikllghajhigaaMemOnly
import Derived.Laws.Tables
import Derived.Lib.Hide
import Derived.StillTailTactics
namespace Go.Proofs.Ytfikllghajhigaa
open Go.RowKit
set_option linter.unusedVariables false

theorem only_put {b : Nat} {w w1 : World} (o : Only (fun k => k = b) w w1) (j : Nat) (v : Value) : Only (fun k => k = b) w (w1.setCell ⟨b, j, none⟩ v) := o.setCell (p := ⟨b, j, none⟩) (.inl rfl) v
/-- the cells of a clock -/
def cc (now : Nat) (l : List Nat) : Array Value := (Value.int .u32 (now : Int) :: l.map (fun (x : Nat) => Value.int .i64 (x : Int))).toArray
/-- The block b holds a clock: its time and how many steps each timer still runs. -/
def CS (w : World) (t : TypeId) (b now : Nat) (l : List Nat) : Prop := l.length = 32 ∧ (∀ x ∈ l, x ≤ 1073741824) ∧ now < 4294967296 ∧ w.heap[b]? = some (.cells (cc now l) t (0, 0))
section
variable {w : World} {t : TypeId} {b now : Nat} {l : List Nat}
theorem CS.lt (h : CS w t b now l) : b < w.heap.size := lt_of_block h.2.2.2
theorem CS.only {F : Nat → Prop} {w' : World} (h : CS w t b now l) (o : Only F w w') (hF : ¬ F b) : CS w' t b now l := ⟨h.1, h.2.1, h.2.2.1, (o.block b h.lt hF).trans h.2.2.2⟩
theorem CS.now_ (h : CS w t b now l) : w.cell? ⟨b, 0, none⟩ = some (.int .u32 (now : Int)) := by
  rw [cell_of_row w b _ _ _ (0, 0) h.2.2.2]
  unfold cc
  rw [List.getElem?_toArray]
  rfl
theorem CS.at_ (h : CS w t b now l) {j : Nat} (hj : j < 32) : w.cell? ⟨b, 1 + j, none⟩ = some (.int .i64 ((l.getD j 0 : Nat) : Int)) := by
  rw [cell_of_row w b _ _ _ (0, 0) h.2.2.2]
  unfold cc
  have := h.1
  rw [List.getElem?_toArray, Nat.add_comm, List.getElem?_cons_succ, List.getElem?_map, List.getElem?_eq_getElem (by omega)]
  simp [List.getD_eq_getElem?_getD, List.getElem?_eq_getElem (show j < l.length by omega)]
theorem CS.frozen (h : CS w t b now l) (j : Nat) : w.frozen? ⟨b, j, none⟩ = false := frozen_of_row w b j _ _ h.2.2.2
theorem CS.le (h : CS w t b now l) (j : Nat) : l.getD j 0 ≤ 1073741824 := by
  rw [List.getD_eq_getElem?_getD]
  by_cases hj : j < l.length
  · rw [List.getElem?_eq_getElem hj]
    exact h.2.1 _ (List.getElem_mem hj)
  · rw [List.getElem?_eq_none (by omega)]
    decide
theorem CS.set (h : CS w t b now l) {j x : Nat} (hj : j < 32) (hx : x ≤ 1073741824) : CS (w.setCell ⟨b, 1 + j, none⟩ (.int .i64 (x : Int))) t b now (l.set j x) := by
  refine ⟨by simpa using h.1, fun y hy => ?_, h.2.2.1, ?_⟩
  · rcases List.mem_or_eq_of_mem_set hy with hy | rfl
    · exact h.2.1 y hy
    · exact hx
  · rw [heap_setCell_same w b (1 + j) _ t _ h.2.2.2]
    unfold cc
    rw [List.setIfInBounds_toArray, Nat.add_comm, List.set_cons_succ, List.map_set]
theorem CS.tick (h : CS w t b now l) {x : Nat} (hx : x < 4294967296) : CS (w.setCell ⟨b, 0, none⟩ (.int .u32 (x : Int))) t b x l := by
  refine ⟨h.1, h.2.1, hx, ?_⟩
  rw [heap_setCell_same w b 0 _ t _ h.2.2.2]
  rfl
end
/-- all timers stopped -/
def nought : List Nat := List.replicate 32 0
theorem CS.fresh (w : World) (t : TypeId) {now : Nat} (h : now < 4294967296) : CS (w.alloc (.cells (cc now nought) t)) t w.heap.size now nought :=
  ⟨by simp [nought], fun x hx => by rw [(List.mem_replicate.1 hx).2]; decide, h, heap_alloc_new w _⟩

theorem built_set (n : Int) : (Try.prog.built 45 [(0, .int .u32 n)]).isSome = true := by kernel_rfl
theorem built_set_eq (n : Nat) : (Try.prog.built 45 [(0, .int .u32 (n : Int))]).getD #[] = cc n nought := by kernel_rfl
theorem built_clk (n : Int) : (Try.prog.built 47 [(0, .int .u32 n)]).isSome = true := by kernel_rfl
theorem built_clk_eq (n : Nat) : (Try.prog.built 47 [(0, .int .u32 (n : Int))]).getD #[] = cc n nought := by kernel_rfl
theorem wpList_clk (t : TypeId) (h1 : ∀ n : Int, (Try.prog.built t [(0, .int .u32 n)]).isSome = true) (h2 : ∀ n : Nat, (Try.prog.built t [(0, .int .u32 (n : Int))]).getD #[] = cc n nought)
    {ops : Array Oper} {rest : List Oper} {o : Oper} {a : Act} {w : World} {Q : Exit → Act → World → Prop} (hg : o.guard = none) (x : Operand) (ho : o.op = .build t #[(0, x)])
    (n : Nat) (hx : a.eval x = .int .u32 (n : Int)) (h : wpList Try.prog ops Q rest (a.put o.dst (.agg (cc n nought))) w) : wpList Try.prog ops Q (o :: rest) a w := by
  refine wpList_build hg _ _ ho ?_ ?_
  · simp only [List.map_toArray, List.map_cons, List.map_nil, hx]
    exact h1 n
  · simp only [List.map_toArray, List.map_cons, List.map_nil, hx]
    rw [h2 n]
    exact h
theorem new_calls (n : Nat) (w : World) : Calls Try.prog 8 #[.int .u32 (n : Int)] w fun e w' => e = .returned (.pointer (some ⟨w.heap.size, 0, none⟩)) ∧ w.alloc (.cells (cc n nought) 45) = w' := by
  go_enter Try.func8, Try.ntmps8
  go_wp2_with (refine wpList_clk 45 built_set built_set_eq rfl _ rfl n rfl ?_)
  go_ret
  exact ⟨rfl, rfl⟩
theorem refNew_calls (n : Nat) (w : World) : Calls Try.prog 9 #[.int .u32 (n : Int)] w fun e w' => e = .returned (.pointer (some ⟨w.heap.size, 0, none⟩)) ∧ w.alloc (.cells (cc n nought) 47) = w' := by
  go_enter Try.func9, Try.ntmps9
  go_wp2_with (refine wpList_clk 47 built_clk built_clk_eq rfl _ rfl n rfl ?_)
  go_ret
  exact ⟨rfl, rfl⟩

/-- is there such a timer? -/
def isT (id : Int) : Bool := decide (0 ≤ id) && decide (id < 32)
theorem isT_pos {id : Int} (h : 0 ≤ id ∧ id < 32) : isT id = true := by simp [isT, h]
theorem isT_neg {id : Int} (h : ¬ (0 ≤ id ∧ id < 32)) : isT id = false := by
  unfold isT
  rcases Decidable.not_and_iff_not_or_not.1 h with h | h
  · simp [h]
  · have : ¬ id < 32 := h
    simp [this]
theorem isTimer_calls (id : Int) (w : World) : Calls Try.prog 21 #[.int .i64 id] w fun e w' => e = .returned (.bool (isT id)) ∧ w' = w := by
  by_cases h1 : 0 ≤ id
  · by_cases h2 : id < 32
    · rw [isT_pos ⟨h1, h2⟩]
      go_enter Try.func21, Try.ntmps21
      go_wp2
      go_ret
      simp
    · rw [isT_neg (by omega)]
      go_enter Try.func21, Try.ntmps21
      go_wp2
      go_ret
      simp
  · rw [isT_neg (by omega)]
    go_enter Try.func21, Try.ntmps21
    go_wp2
    go_ret
    simp
theorem timer_calls (id : Int) (w : World) : Calls Try.prog 22 #[.int .i64 id] w fun e w' => e = .returned (.bool (isT id)) ∧ w' = w := by
  by_cases h1 : 0 ≤ id
  · by_cases h2 : id < 32
    · rw [isT_pos ⟨h1, h2⟩]
      go_enter Try.func22, Try.ntmps22
      go_wp2
      go_ret
      simp
    · rw [isT_neg (by omega)]
      go_enter Try.func22, Try.ntmps22
      go_wp2
      go_ret
      simp
  · rw [isT_neg (by omega)]
    go_enter Try.func22, Try.ntmps22
    go_wp2
    go_ret
    simp
/-- does it run? -/
def runs (l : List Nat) (id : Int) : Bool := isT id && decide (0 < l.getD id.toNat 0)
theorem runs_neg {l : List Nat} {id : Int} (h : ¬ (0 ≤ id ∧ id < 32)) : runs l id = false := by simp [runs, isT_neg h]
theorem runs_nat {l : List Nat} {j : Nat} (h : j < 32) : runs l (j : Int) = decide (0 < l.getD j 0) := by
  unfold runs
  rw [isT_pos (by omega)]
  simp
/-- limited to the range from lo on -/
def cut (lo x : Int) : Nat := (min (max x lo) 1073741824).toNat
theorem cut_le (lo x : Int) : cut lo x ≤ 1073741824 := by unfold cut; omega
theorem cut_int {lo : Int} (h : 0 ≤ lo) (h' : lo ≤ 1073741824) (x : Int) : min (max x lo) 1073741824 = ((cut lo x : Nat) : Int) := by unfold cut; omega
/-- a timer started, stopped -/
def startL (l : List Nat) (id after : Int) : List Nat := if 0 ≤ id ∧ id < 32 then l.set id.toNat (cut 1 after) else l
def stopL (l : List Nat) (id : Int) : List Nat := if runs l id = true then l.set id.toNat 0 else l

section
variable {w : World} {b now : Nat} {l : List Nat}
theorem now_calls (h : CS w 45 b now l) : Calls Try.prog 19 #[.pointer (some ⟨b, 0, none⟩)] w fun e w' => e = .returned (.int .u32 (now : Int)) ∧ w' = w := by
  have c0 := h.now_
  clear h
  go_enter Try.func19, Try.ntmps19
  go_wp2
  go_ret
  exact ⟨rfl, rfl⟩
theorem refNow_calls (h : CS w 47 b now l) : Calls Try.prog 20 #[.pointer (some ⟨b, 0, none⟩)] w fun e w' => e = .returned (.int .u32 (now : Int)) ∧ w' = w := by
  have c0 := h.now_
  clear h
  go_enter Try.func20, Try.ntmps20
  go_wp2
  go_ret
  exact ⟨rfl, rfl⟩
theorem runs_calls (h : CS w 45 b now l) (id : Int) : Calls Try.prog 24 #[.pointer (some ⟨b, 0, none⟩), .int .i64 id] w fun e w' => e = .returned (.bool (runs l id)) ∧ w' = w := by
  have ct := isTimer_calls id
  by_cases hid : 0 ≤ id ∧ id < 32
  · obtain ⟨j, rfl⟩ : ∃ j : Nat, id = (j : Int) := ⟨id.toNat, by omega⟩
    have hj : j < 32 := by omega
    have c0 := h.at_ hj
    rw [runs_nat hj]
    rw [isT_pos hid] at ct
    clear h hid
    generalize l.getD j 0 = x at *
    go_enter Try.func24, Try.ntmps24
    go_wp2_with fail
    refine (ct w).mono ?_
    rintro e w' ⟨rfl, rfl⟩
    go_wp2
    go_ret
    simp
  · rw [runs_neg hid]
    rw [isT_neg hid] at ct
    clear h hid
    go_enter Try.func24, Try.ntmps24
    go_wp2_with fail
    refine (ct w).mono ?_
    rintro e w' ⟨rfl, rfl⟩
    go_wp2
    go_ret
    simp
end
end Go.Proofs.Ytfikllghajhigaa

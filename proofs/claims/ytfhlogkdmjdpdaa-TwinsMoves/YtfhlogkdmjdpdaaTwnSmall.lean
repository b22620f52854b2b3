/- The small functions of a table of the program: New, place, enter, Clear. No condition. -/
import Derived.Test.YtfhlogkdmjdpdaaTwnMem
namespace Go.Proofs.Ytfhlogkdmjdpdaa
open Go.RowKit
set_option linter.unusedVariables false

/-- a new table, built, its cells unseen -/
theorem wpList_tableZ {ops : Array Oper} {rest : List Oper} {o : Oper} {a : Act} {w : World} {Q : Exit → Act → World → Prop} (hg : o.guard = none) (x : Operand) (ho : o.op = .build 39 #[(0, x)])
    (n : Int) (Z : Array Value) (hZ : Hid (zcells n = Z)) (hx : a.eval x = .int .u32 n) (h : wpList Try.prog ops Q rest (a.put o.dst (.agg Z)) w) : wpList Try.prog ops Q (o :: rest) a w := by
  have hZ := hZ.out
  subst hZ
  refine wpList_build hg _ _ ho ?_ ?_
  · simp only [List.map_toArray, List.map_cons, List.map_nil, hx]
    exact built_some n
  · simp only [List.map_toArray, List.map_cons, List.map_nil, hx]
    rw [show (Try.prog.built 39 [(0, Value.int .u32 n)]).getD #[] = zcells n from built_eq n]
    exact h
theorem wpList_tableN {ops : Array Oper} {rest : List Oper} {o : Oper} {a : Act} {w : World} {Q : Exit → Act → World → Prop} (hg : o.guard = none) (x : Operand) (ho : o.op = .build 39 #[(0, x)])
    (n n' : Int) (Z : Array Value) (hZ : Hid (zcells n = Z)) (hx : a.eval x = .int .u32 n') (hn : n' = n) (h : wpList Try.prog ops Q rest (a.put o.dst (.agg Z)) w) : wpList Try.prog ops Q (o :: rest) a w := by
  subst hn
  exact wpList_tableZ hg x ho n' Z hZ hx h
theorem zcells_one (n : Int) : ∀ v ∈ (zcells n).toList, v.oneCell' = true := by
  intro v hv
  unfold zcells at hv
  rw [List.mem_cons, List.mem_cons, List.mem_cons, List.mem_replicate] at hv
  rcases hv with rfl | rfl | rfl | ⟨_, rfl⟩ <;> rfl
theorem zcells_size (n : Int) : (zcells n).size = 4099 := by
  unfold zcells
  rw [List.size_toArray, List.length_cons, List.length_cons, List.length_cons, List.length_replicate]
theorem table_size : (Try.prog.info? 39).map (·.size) = some 4099 := by kernel_rfl
theorem run_storeVar_table (w : World) (b : Nat) (n : Int) (old : Array Value) (t : TypeId) (hb : w.heap[b]? = some (.cells old t (0, 0))) (hs : old.size = 4099) :
    (storeVar 39 ⟨b, 0, none⟩ (.agg (zcells n))).run Try.prog w = .ok () (w.setCells b 0 (zcells n).toList) := by
  have hz := zcells_size n
  have hlen : (zcells n).toList.length = 4099 := by simpa using hz
  have := run_storeCells_cells (P := Try.prog) b 0 (zcells n).toList 0 w (fun j hj => by rw [cell_of_row w b _ _ _ (0, 0) hb]; simp; omega) (fun j hj => frozen_of_row w b _ _ _ hb) (zcells_one n)
  have hi := table_size
  cases hq : Try.prog.info? 39 with
  | none => rw [hq] at hi; simp at hi
  | some i =>
    have hs : (zcells n).size = i.size := by rw [hq] at hi; simp at hi; omega
    simp [storeVar, sizeOf, typeInfo, hq, Value.cells, hs, this]
/-- a whole table stored -/
theorem wpList_clearT {ops : Array Oper} {rest : List Oper} {o : Oper} {a : Act} {w : World} {Q : Exit → Act → World → Prop} (hgd : o.guard = none) (x y : Operand) (ho : o.op = .store 39 x y)
    (b : Nat) (n : Int) (Z : Array Value) (hZ : Hid (zcells n = Z)) (hx : a.eval x = .pointer (some ⟨b, 0, none⟩)) (hy : a.eval y = .agg Z) (old : Array Value) (t : TypeId) (hb : w.heap[b]? = some (.cells old t (0, 0))) (hs : old.size = 4099)
    (h : wpList Try.prog ops Q rest (a.put o.dst undef) (w.setCells b 0 Z.toList)) : wpList Try.prog ops Q (o :: rest) a w :=
  wpList_plain hgd fun _ hK => by
    have hZ := hZ.out
    subst hZ
    unfold Oper.wp execOp
    simp only [ho, hx, hy, Instr.storeAt, Instr.sureAddr, Sem.run_bind, Sem.run_pure, Result.andThen_ok, run_storeVar_table w b n old t hb hs]
    exact hK _ _ h
/-- a part of a block written over -/
theorem setCells_mid (g : Nat) (t : TypeId) : ∀ (vs mid pre post : List Value) (w : World), vs.length = mid.length → w.heap[g]? = some (.cells (pre ++ (mid ++ post)).toArray t (0, 0)) → (w.setCells g pre.length vs).heap[g]? = some (.cells (pre ++ (vs ++ post)).toArray t (0, 0))
  | [], [], _, _, _, _, h => h
  | v :: vs, m :: mid, pre, post, w, hl, h => by
    have h1 := heap_setCell_same w g pre.length _ t v h
    rw [List.setIfInBounds_toArray, List.set_append_right _ _ (Nat.le_refl _), Nat.sub_self] at h1
    have := setCells_mid g t vs mid (pre ++ [v]) post (w.setCell ⟨g, pre.length, none⟩ v) (by simpa using hl) (by rw [h1]; simp)
    rw [World.setCells]
    simpa using this
theorem tclear_mem {w : World} {b : Nat} {m : Tb} (h : PT w b m) : PT (w.setCells b 0 (zcells (m.S : Int)).toList) b m.clear := by
  obtain ⟨f, hi, h1, h2, h3, h4⟩ := h
  refine PT.cleared h1 ?_
  have hz := zcells_size (m.S : Int)
  have hs := tcells_size m.S m.kn hi f
  generalize zcells (m.S : Int) = Z at *
  generalize tcells m.S m.kn hi f = C at *
  have key := setCells_mid b 39 Z.toList C.toList [] [] w (by simp [hz, hs]) (by simpa using h3)
  simpa using key

theorem tnew_calls (n : Int) (w : World) : Calls Try.prog 9 #[.int .i64 n] w fun e w' => e = .returned (.pointer (some ⟨w.heap.size, 0, none⟩)) ∧ PT w' w.heap.size (tnew n) ∧ Below w.heap.size w w' ∧ w'.heap.size = w.heap.size + 1 := by
  have h2 := Lib.hid (tsz_int n)
  have FIN := Lib.hid (show PT (w.alloc (.cells (zcells (tsz n : Int)) 39)) w.heap.size (tnew n) ∧ Below w.heap.size w (w.alloc (.cells (zcells (tsz n : Int)) 39)) ∧ (w.alloc (.cells (zcells (tsz n : Int)) 39)).heap.size = w.heap.size + 1 from
    ⟨PT.empty (heap_alloc_new w _), (Below.refl _ _).alloc (Nat.le_refl _) _, by simp⟩)
  generalize tsz n = s at *
  obtain ⟨Z, hZ⟩ : ∃ Z, zcells (s : Int) = Z := ⟨_, rfl⟩
  rw [hZ] at FIN
  have HZ := Lib.hid hZ
  clear hZ
  have hn : n < 1 ∨ 4096 < n ∨ (1 ≤ n ∧ n ≤ 4096) := by omega
  rcases hn with hn | hn | ⟨hn, hn'⟩
  all_goals
    go_enter Try.func9, Try.ntmps9
    go_wp2_with (refine wpList_tableN rfl _ rfl (s : Int) _ Z HZ rfl (by have := h2.out; omega) ?_)
    go_ret
    exact ⟨rfl, FIN.out⟩
theorem tclear_calls {w : World} {b : Nat} {m : Tb} (h : PT w b m) : Calls Try.prog 12 #[.pointer (some ⟨b, 0, none⟩)] w fun e w' => e = .returned (.tuple #[]) ∧ PT w' b m.clear ∧ Only (fun k => k = b) w w' := by
  have FIN := Lib.hid (show PT (w.setCells b 0 (zcells (m.S : Int)).toList) b m.clear ∧ Only (fun k => k = b) w (w.setCells b 0 (zcells (m.S : Int)).toList) from ⟨tclear_mem h, only_setCells w b _ 0⟩)
  obtain ⟨f, hi, h1, h2, h3, h4⟩ := h
  obtain ⟨c0, _⟩ := tcell h3
  have hs := tcells_size m.S m.kn hi f
  have H6 := Lib.hid h3
  have HS := Lib.hid hs
  clear h1 h2 h3 h4 hs
  obtain ⟨Z, hZ⟩ : ∃ Z, zcells (m.S : Int) = Z := ⟨_, rfl⟩
  rw [hZ] at FIN
  have HZ := Lib.hid hZ
  clear hZ
  go_enter Try.func12, Try.ntmps12
  go_wp2_with (first | refine wpList_tableZ rfl _ rfl _ Z HZ rfl ?_ | refine wpList_clearT rfl _ _ rfl _ _ Z HZ rfl rfl _ _ H6.out HS.out ?_)
  go_end0
  exact ⟨rfl, FIN.out⟩
theorem place_calls (n : Nat) (w : World) : Calls Try.prog 18 #[.int .u32 (n : Int)] w fun e w' => e = .returned (.int .i64 ((n % 4096 : Nat) : Int)) ∧ w' = w := by
  have h1 := Lib.hid (show (n : Int).tmod 4096 = ((n % 4096 : Nat) : Int) by rw [Int.tmod_eq_emod_of_nonneg (by omega)]; omega)
  go_enter Try.func18, Try.ntmps18
  go_wp2
  go_ret
  refine ⟨ret_int ?_, rfl⟩
  have := h1.out
  omega
end Go.Proofs.Ytfhlogkdmjdpdaa

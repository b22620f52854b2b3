/- A new monitor of the program, built with a window in it: its cells. No condition. -/
import Derived.Test.YtnjmnklkbldmgaaMonWin
namespace Go.Proofs.Ytnjmnklkbldmgaa
open Go.RowKit
set_option linter.unusedVariables false

theorem fold_lay : ∀ (vs mid pre post : List Value) (off k : Nat), pre.length = off + k → vs.length = mid.length →
    (vs.zipIdx k).foldl (fun (cs : Array Value) (p : Value × Nat) => cs.setIfInBounds (off + p.2) p.1) (pre ++ (mid ++ post)).toArray = (pre ++ (vs ++ post)).toArray
  | [], [], _, _, _, _, _, _ => rfl
  | v :: vs, m :: mid, pre, post, off, k, h, hl => by
    rw [List.zipIdx_cons, List.foldl_cons]
    have e : (pre ++ (m :: mid ++ post)).toArray.setIfInBounds (off + k) v = ((pre ++ [v]) ++ (mid ++ post)).toArray := by
      rw [List.setIfInBounds_toArray, ← h, List.set_append_right _ _ (Nat.le_refl _), Nat.sub_self]
      simp
    show (vs.zipIdx (k + 1)).foldl _ ((pre ++ (m :: mid ++ post)).toArray.setIfInBounds (off + k) v) = _
    rw [e, fold_lay vs mid (pre ++ [v]) post off (k + 1) (by simp; omega) (by simpa using hl)]
    simp
/-- a part of several cells -/
theorem fill_agg (place : Nat → Option (Nat × Nat)) (i : Nat) (pre mid post vs : List Value) (rest : List (Nat × Value)) (hp : place i = some (pre.length, vs.length)) (hl : vs.length = mid.length) :
    Instr.fill place (pre ++ (mid ++ post)).toArray ((i, .agg vs.toArray) :: rest) = Instr.fill place (pre ++ (vs ++ post)).toArray rest := by
  rw [Instr.fill, hp]
  have hc : (Value.agg vs.toArray).cells = vs.toArray := rfl
  simp only [hc]
  rw [if_neg (by simp; omega)]
  have := fold_lay vs mid pre post pre.length 0 rfl hl
  rw [← this]
  congr 1
  rw [← Array.foldl_toList]
  simp
/-- a part of one cell -/
theorem fill_one (place : Nat → Option (Nat × Nat)) (i off : Nat) (v : Value) (cs : Array Value) (rest : List (Nat × Value)) (hp : place i = some (off, 1)) (hv : v.cells = #[v]) (hs : off + 1 ≤ cs.size) :
    Instr.fill place cs ((i, v) :: rest) = Instr.fill place (cs.setIfInBounds off v) rest := by
  rw [Instr.fill, hp]
  simp only [hv]
  rw [if_neg (by simp; omega)]
  congr 1
/-- the cells of a new monitor -/
def mzcells (x y : Nat) (s : Int) : Array Value := ([Value.complex .f64 x y, Value.int .i64 s, Value.int .i64 0] ++ ((zcells 16).toList ++ [.complex .f64 0 0, Value.int .i64 0])).toArray
theorem minfo : (Try.prog.info? 50).map (fun i => i.zero.map (·.cells)) = some (some ([Value.complex .f64 0 0, Value.int .i64 0, Value.int .i64 0] ++ ((zcells 0).toList ++ [.complex .f64 0 0, Value.int .i64 0])).toArray) := by kernel_rfl
theorem mfields_eq : (match Try.prog.underlying 50 with
  | some (.struct fields) => fields.toList.mapM (fun f => (Try.prog.info? f.type).map fun i => (f.offset, i.size))
  | _ => none) = some [(0, 1), (1, 1), (2, 1), (3, 1003), (1006, 1), (1007, 1)] := by kernel_rfl
theorem mbuilt_eq (x y : Nat) (s : Int) : Try.prog.built 50 [(0, .complex .f64 x y), (1, .int .i64 s), (2, .int .i64 0), (3, .agg (zcells 16))] = some (mzcells x y s) := by
  have h1 := minfo
  have h2 := mfields_eq
  have hz := zcells_size 0
  have hz' := zcells_size 16
  unfold Program.built
  unfold mzcells
  generalize zcells 0 = Z0 at *
  obtain ⟨Z, hZ⟩ : ∃ Z, (zcells 16).toList = Z := ⟨_, rfl⟩
  have hZ' : zcells 16 = Z.toArray := by rw [← hZ]
  have hz2 : Z.length = 1003 := by rw [← hZ]; simpa using hz'
  rw [hZ']
  clear hZ hZ' hz'
  cases hi : Try.prog.info? 50 with
  | none => rw [hi] at h1; simp at h1
  | some it =>
    cases hu : Try.prog.underlying 50 with
    | none => rw [hu] at h2; simp at h2
    | some d =>
      rw [hi] at h1
      rw [hu] at h2
      cases hzo : it.zero with
      | none => rw [Option.map_some, hzo] at h1; simp at h1
      | some z =>
        rw [Option.map_some, hzo, Option.map_some] at h1
        have h1 := Option.some.inj (Option.some.inj h1)
        cases d <;> try (simp at h2; done)
        case struct fields =>
          have h2 : fields.toList.mapM (fun f => (Try.prog.info? f.type).map fun i => (f.offset, i.size)) = _ := h2
          simp only [hzo, h2, h1]
          have hl : (([Value.complex .f64 0 0, Value.int .i64 0, Value.int .i64 0] ++ (Z0.toList ++ [.complex .f64 0 0, Value.int .i64 0])).toArray).size = 1008 := by simp [hz]
          rw [fill_one _ 0 0 _ _ _ rfl rfl (by omega)]
          rw [fill_one _ 1 1 _ _ _ rfl rfl (by simp [hz])]
          rw [fill_one _ 2 2 _ _ _ rfl rfl (by simp [hz])]
          have e : (((([Value.complex .f64 0 0, Value.int .i64 0, Value.int .i64 0] ++ (Z0.toList ++ [.complex .f64 0 0, Value.int .i64 0])).toArray.setIfInBounds 0 (.complex .f64 x y)).setIfInBounds 1 (.int .i64 s)).setIfInBounds 2 (.int .i64 0)) = ([Value.complex .f64 x y, Value.int .i64 s, Value.int .i64 0] ++ (Z0.toList ++ [.complex .f64 0 0, Value.int .i64 0])).toArray := by simp
          rw [e, fill_agg _ 3 _ _ _ _ _ (by rw [hz2]; rfl) (by rw [hz2]; simp [hz])]
          rfl
theorem mzcells_eq (g d s : Int) : mzcells (fl g) (fl d) s = xcells ⟨cx g d, .int .i64 s, .int .i64 0, cx 0 0, .int .i64 0⟩ 16 (List.replicate 1000 0) 0 0 0 := by
  unfold mzcells
  rw [show (16 : Int) = ((16 : Nat) : Int) from rfl, zcells_eq]
  generalize List.replicate 1000 0 = R0
  unfold wcells xcells
  rw [cx_zero]
  simp [cx]
/-- a new monitor, built, its cells unseen -/
theorem wpList_monitor {ops : Array Oper} {rest : List Oper} {o : Oper} {a : Act} {w : World} {Q : Exit → Act → World → Prop} (hg : o.guard = none) (x y z u : Operand) (ho : o.op = .build 50 #[(0, x), (1, y), (2, z), (3, u)])
    (p q : Nat) (s : Int) (Z M : Array Value) (hZ : Hid (zcells 16 = Z)) (hM : Hid (mzcells p q s = M)) (hx : a.eval x = .complex .f64 p q) (hy : a.eval y = .int .i64 s) (hz : a.eval z = .int .i64 0) (hu : a.eval u = .agg Z)
    (h : wpList Try.prog ops Q rest (a.put o.dst (.agg M)) w) : wpList Try.prog ops Q (o :: rest) a w := by
  have hZ := hZ.out
  have hM := hM.out
  subst hZ
  subst hM
  refine wpList_build hg _ _ ho ?_ ?_
  · simp only [List.map_toArray, List.map_cons, List.map_nil, hx, hy, hz, hu]
    rw [mbuilt_eq p q s]
    rfl
  · simp only [List.map_toArray, List.map_cons, List.map_nil, hx, hy, hz, hu]
    rw [mbuilt_eq p q s]
    exact h
/-- the window that is copied -/
theorem wpList_loadW {ops : Array Oper} {rest : List Oper} {o : Oper} {a : Act} {w : World} {Q : Exit → Act → World → Prop} (hgd : o.guard = none) (x : Operand) (ho : o.op = .load 46 x)
    (g : Nat) (Z : Array Value) (hZ : Hid (zcells 16 = Z)) (hb : Hid (w.heap[g]? = some (.cells Z 46 (0, 0)))) (hx : a.eval x = .pointer (some ⟨g, 0, none⟩))
    (h : wpList Try.prog ops Q rest (a.put o.dst (.agg Z)) w) : wpList Try.prog ops Q (o :: rest) a w := by
  have hs : Z.size = 1003 := by rw [← hZ.out]; exact zcells_size 16
  exact wpList_load_row hgd _ x ho g hx _ _ _ _ hb.out Try.underlying46 rfl (by rw [hs]; exact window_size) h
end Go.Proofs.Ytnjmnklkbldmgaa

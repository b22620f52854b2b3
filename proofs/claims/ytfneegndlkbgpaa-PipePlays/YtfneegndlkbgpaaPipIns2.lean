/- The library's Insert of one byte at the end, or where there is no room; and in one contract. Condition: the slice holds at most 1048576 bytes. -/
import Derived.Test.YtfneegndlkbgpaaPipIns
namespace Go.Proofs.Ytfneegndlkbgpaa
open Go.RowKit Go.Lib
set_option linter.unusedVariables false

theorem ins_end (W W' : World) (A A' : Option Addr) (n c c' vb : Nat) (hnc : n ≤ c) (hc63 : c ≤ 9223372036854775807) (hA : (A = none ∧ c = 0) ∨ ∃ g off, A = some ⟨g, off, none⟩)
    (run : ∀ ty, (Builtin.append_ #[28, 28] ty #[.slice A n c, .slice (some ⟨vb, 0, none⟩) 1 1]).run Try.prog W = .ok (.slice A' (n + 1) c') W') :
    Calls Try.prog 24 #[.slice A n c, .int .i64 (n : Int), .slice (some ⟨vb, 0, none⟩) 1 1] W fun e w' => e = .returned (.slice A' (n + 1) c') ∧ w' = W' := by
  rcases hA with ⟨rfl, rfl⟩ | ⟨g, off, rfl⟩
  · have hn : n = 0 := by omega
    subst hn
    go_enter Try.func24, Try.ntmps24
    go_wp2_with (at_builtin; refine Lib.wpList_append_run _ rfl _ _ _ _ rfl _ _ rfl rfl _ _ (run _) ?_)
    go_ret
    exact ⟨rfl, rfl⟩
  · by_cases hcn : c = n
    · subst hcn
      go_enter Try.func24, Try.ntmps24
      go_wp2_with (at_builtin; refine Lib.wpList_append_run _ rfl _ _ _ _ rfl _ _ rfl rfl _ _ (run _) ?_)
      go_ret
      exact ⟨rfl, rfl⟩
    · go_enter Try.func24, Try.ntmps24
      go_wp2_with (at_builtin; refine Lib.wpList_append_run _ rfl _ _ _ _ rfl _ _ rfl rfl _ _ (run _) ?_)
      go_ret
      exact ⟨rfl, rfl⟩

set_option maxHeartbeats 1000000 in
theorem ins_grow (W : World) (g off n i vb G : Nat) (cs : List Value) (v : Value) (ROW : Array Value) (hi : i < n) (hn : n ≤ 1048576) (hcl : cs.length = n)
    (hcs : ∀ j u, cs[j]? = some u → W.cell? ⟨g, off + j, none⟩ = some u) (h1c : ∀ u ∈ cs, u.oneCell' = true) (h1v : v.oneCell' = true) (hvs : W.cell? ⟨vb, 0, none⟩ = some v)
    (hG : G = grownCap W (n + 1) n 5) (hROW : ROW = (cs.take i).toArray ++ Builtin.zeroCells (Value.int .u8 0).cells (n + 1 - i) ++ Builtin.zeroCells (Value.int .u8 0).cells (G - (n + 1))) :
    Calls Try.prog 24 #[.slice (some ⟨g, off, none⟩) n n, .int .i64 (i : Int), .slice (some ⟨vb, 0, none⟩) 1 1] W fun e w' =>
      e = .returned (.slice (some ⟨W.heap.size, 0, none⟩) (n + 1) G) ∧
      w' = (((W.alloc (.cells ROW 5)).drew.setCells W.heap.size i [v]).drew).setCells W.heap.size (i + 1) (cs.drop i) := by
  have mixed : Try.prog.follows Departure.mixedOrders = true := by kernel_rfl
  obtain ⟨i0, hi0, hz0, hzs, hzb⟩ := info_parts info8
  have hz2 : ¬ ((i : Int) = (n : Int)) := by omega
  have hz3 : (n : Int) < (n : Int) + 1 := by omega
  have hbw : g < W.heap.size := World.block_lt_of_cell? W ⟨g, off + 0, none⟩ (hcs 0 _ (List.getElem?_eq_getElem (by omega)))
  have hvw : vb < W.heap.size := World.block_lt_of_cell? W ⟨vb, 0, none⟩ hvs
  have hkk : (n : Int) + 1 - (i : Int) = ((n + 1 - i : Nat) : Int) := by omega
  have hik : i + (n + 1 - i) = n + 1 := by omega
  have hold : (Builtin.firstCells i0.size i (.slice (some ⟨g, off, none⟩) i n)).run Try.prog W.drew = .ok (cs.take i).toArray W.drew := by
    rw [hzs]
    exact run_firstCells_some W.drew 1 i ⟨g, off, none⟩ i n (cs.take i) (by rw [List.length_take]; omega) (fun j v hj => by
      rw [Addr.add_lit]
      rw [List.getElem?_take] at hj
      split at hj
      · exact hcs j v hj
      · cases hj)
  have hrz : ∀ ty, (Builtin.append_ #[28, 3] ty #[.slice (some ⟨g, off, none⟩) i n, .int .i64 ((n : Int) + 1 - (i : Int))]).run Try.prog W =
      .ok (.slice (some ⟨W.heap.size, 0, none⟩) (n + 1) G) (W.drew.alloc (.cells ROW 5)) := fun ty => by
    have h := Lib.run_append_grow_zeros W 28 3 ty 5 i0 _ .i64 .i64 Try.underlying28 Try.underlying3 hi0 hz0 (some ⟨g, off, none⟩) i n (cs.take i) hold (n + 1 - i) (by omega) (by omega) (by omega) (by omega) (by rw [hzb]; omega) (by rw [hzb, hik]; exact growslice_fits (by omega) (by omega))
    rw [hik, ← hG, ← hROW] at h
    rw [hkk]
    exact h
  have hGn : n + 1 ≤ G := by rw [hG]; exact grownCap_ge W _ _ _
  have hG63 : G ≤ 9223372036854775807 := by
    have := grownCap_le_maxLen W (n + 1) n 5 (by unfold maxLen; omega)
    rw [← hG] at this
    unfold maxLen at this
    omega
  have hRl : n + 1 ≤ ROW.size := by
    rw [hROW]
    simp [Builtin.zeroCells, Value.cells]
    omega
  obtain ⟨W1, hW1⟩ : ∃ W1, W1 = W.drew.alloc (.cells ROW 5) := ⟨_, rfl⟩
  rw [← hW1] at hrz
  have hN : ∀ j, j < n + 1 → (W1.cell? ⟨W.heap.size, j, none⟩).isSome = true := fun j hj => by
    rw [hW1, World.cell?_alloc_at (w := W.drew) ROW _ W.heap.size j rfl, Array.getElem?_eq_getElem (by omega)]; rfl
  have hNf : ∀ j, W1.frozen? ⟨W.heap.size, j, none⟩ = false := fun j => by rw [hW1]; exact World.frozen?_alloc_at (w := W.drew) ROW _ W.heap.size j rfl
  have hOb : ∀ j v, W.cell? ⟨g, j, none⟩ = some v → W1.cell? ⟨g, j, none⟩ = some v := fun j v h => by rw [hW1, World.cell?_alloc_past (w := W.drew) _ g j hbw]; exact h
  have hOv : W1.cell? ⟨vb, 0, none⟩ = some v := by rw [hW1, World.cell?_alloc_past (w := W.drew) _ vb 0 hvw]; exact hvs
  have hcpA : ∀ (V : World), (∀ x, V.cell? x = W1.cell? x) → (∀ x, V.frozen? x = W1.frozen? x) → ∀ ty dc, (Builtin.copy_ #[28, 28] ty #[.slice (some ⟨W.heap.size, i, none⟩) (n + 1 - i) dc, .slice (some ⟨vb, 0, none⟩) 1 1]).run Try.prog V = .ok (goInt 1) (V.setCells W.heap.size i [v]) := fun V hWc hWf ty dc =>
    run_copy_cells V _ _ ty 5 W.heap.size i (n + 1 - i) dc ⟨vb, 0, none⟩ 1 1 [v] Try.underlying28 size8' (by show 1 = Nat.min 1 _; simp only [Nat.min_def]; split <;> omega)
      (fun j u hj => by
        rcases j with _ | j
        · simp at hj; subst hj; rw [Addr.add_lit, hWc]; exact hOv
        · simp at hj)
      (fun j hj => by rw [hWc]; exact hN _ (by simp at hj; omega)) (fun j hj => by rw [hWf]; exact hNf _) (fun u hu => by simp at hu; subst hu; exact h1v)
  have hGi : ¬ (G = i) := by omega
  have hGim : ¬ (G = i + 1) := by omega
  have hci : ¬ (n = i) := by omega
  have hbN : g ≠ W.heap.size := by omega
  have hdl : (cs.drop i).length = n - i := by rw [List.length_drop, hcl]
  have hcpB : ∀ (V : World), (∀ x, V.cell? x = (W1.setCells W.heap.size i [v]).cell? x) → (∀ x, V.frozen? x = (W1.setCells W.heap.size i [v]).frozen? x) → ∀ ty dc sc, (Builtin.copy_ #[28, 28] ty #[.slice (some ⟨W.heap.size, i + 1, none⟩) (n - i) dc, .slice (some ⟨g, off + i, none⟩) (n - i) sc]).run Try.prog V = .ok (goInt (cs.drop i).length) (V.setCells W.heap.size (i + 1) (cs.drop i)) := fun V hWc hWf ty dc sc =>
    run_copy_cells V _ _ ty 5 W.heap.size (i + 1) (n - i) dc ⟨g, off + i, none⟩ (n - i) sc (cs.drop i) Try.underlying28 size8' (by rw [hdl]; simp only [Nat.min_def]; split <;> omega)
      (fun j v hj => by
        rw [Addr.add_lit, hWc, World.cell?_setCells_out _ _ _ _ _ (fun h _ => absurd h hbN), Nat.add_assoc]
        exact hOb _ v (hcs (i + j) v (by rwa [List.getElem?_drop] at hj)))
      (fun j hj => by rw [hWc]; exact World.isSome_setCells _ _ _ _ _ (hN _ (by omega)))
      (fun j hj => by rw [hWf, World.frozen?_setCells]; exact hNf _) (fun v hv => h1c v (List.mem_of_mem_drop hv))
  subst hW1
  have hE1 : ∀ x, ((W.alloc (.cells ROW 5)).drew).cell? x = (W.drew.alloc (.cells ROW 5)).cell? x := fun x => rfl
  have hE2 : ∀ x, ((W.alloc (.cells ROW 5)).drew).frozen? x = (W.drew.alloc (.cells ROW 5)).frozen? x := fun x => rfl
  have hF1 : ∀ x, (((W.alloc (.cells ROW 5)).drew.setCells W.heap.size i [v]).drew).cell? x = ((W.drew.alloc (.cells ROW 5)).setCells W.heap.size i [v]).cell? x := fun x => rfl
  have hF2 : ∀ x, (((W.alloc (.cells ROW 5)).drew.setCells W.heap.size i [v]).drew).frozen? x = ((W.drew.alloc (.cells ROW 5)).setCells W.heap.size i [v]).frozen? x := fun x => rfl
  have hw1 : IntKind.i64.wrap ((i : Int) + 1) = (i : Int) + 1 := by rw [IntKind.wrap_i64]; omega
  have hb1 : (0 : Int) ≤ (i : Int) + 1 := by omega
  have hin : i ≤ n := by omega
  have htn : ((i : Int) + 1).toNat = i + 1 := by omega
  have hb3 : (i : Int) ≤ (n : Int) := by omega
  clear hkk hik hold hROW hG hRl hcs hvs hN hNf hOb hOv hdl
  go_enter Try.func24, Try.ntmps24
  go_wp2_with (first
    | (at_builtin; refine Lib.wpList_append_run _ rfl _ _ _ _ rfl _ _ rfl rfl _ _ (hrz _) ?_)
    | (at_builtin; refine wpList_copy_runI _ rfl _ _ 28 28 rfl _ _ rfl rfl (hcpA _ hE1 hE2 _ _) ?_))
  go_region_law_o (refine step_copy_runI rfl _ _ 28 28 rfl (.slice (some ⟨W.heap.size, i + 1, none⟩) (n - i) (G - (i + 1))) (.slice (some ⟨g, off + i, none⟩) (n - i) (n - i)) (by simp [Act.eval, Act.put]) (by simp [Act.eval, Act.put]) (hcpB _ hF1 hF2 3 (G - (i + 1)) (n - i)) ?_)
  go_wp2
  go_ret
  exact ⟨rfl, rfl⟩
end Go.Proofs.Ytfneegndlkbgpaa

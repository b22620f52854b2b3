/- The library's Insert of one byte into a slice of the call's own. Condition: it holds at most 1048576 bytes. -/
import Derived.Test.YtfneegndlkbgpaaPipRow
import Derived.Shelf.Spec.SlicesInsert
import Derived.Lib.AppendZerosOnto
namespace Go.Proofs.Ytfneegndlkbgpaa
open Go.RowKit Go.Lib
set_option linter.unusedVariables false

theorem size8 (w : World) : (Go.sizeOf 5).run Try.prog w = .ok 1 w := by
  obtain ⟨i0, hi, hz0, hz1, hz2⟩ := info_parts info8
  simp [sizeOf, typeInfo, hi, hz1]
theorem size8' : (Try.prog.info? 5).map (·.size) = some 1 := by
  obtain ⟨i0, hi, hz0, hz1, hz2⟩ := info_parts info8
  rw [hi]; simp [hz1]

set_option maxHeartbeats 400000 in
theorem ins_shift (W : World) (g off n c i vb : Nat) (cs cur : List Value) (v : Value) (hi : i < n) (hroom : n + 1 ≤ c) (hc63 : c ≤ 9223372036854775807) (hvb : vb ≠ g) (hcl : cs.length = n)
    (hcs : ∀ j u, cs[j]? = some u → W.cell? ⟨g, off + j, none⟩ = some u) (h1c : ∀ u ∈ cs, u.oneCell' = true) (h1v : v.oneCell' = true)
    (hg : W.heap[g]? = some (.cells cur.toArray 5 (0, 0))) (hcur : off + c ≤ cur.length) (hgv : W.heap[vb]? = some (.cells #[v] 5 (0, 0))) :
    Calls Try.prog 24 #[.slice (some ⟨g, off, none⟩) n c, .int .i64 (i : Int), .slice (some ⟨vb, 0, none⟩) 1 1] W fun e w' =>
      e = .returned (.slice (some ⟨g, off, none⟩) (n + 1) c) ∧ w' = (W.drew.setCells g (off + (i + 1)) (cs.drop i)).setCells g (off + i) [v] := by
  have mixed : Try.prog.follows Departure.mixedOrders = true := by kernel_rfl
  have hz2 : ¬ ((i : Int) = (n : Int)) := by omega
  have hsp : ∀ j, j < n + 1 → (W.cell? ⟨g, off + j, none⟩).isSome = true := fun j hj => some_of_row hg (by simp; omega)
  have hfz : ∀ j, W.frozen? ⟨g, j, none⟩ = false := fun j => frozen_of_row W g j _ _ hg
  have hvs : W.cell? ⟨vb, 0, none⟩ = some v := by rw [cell_of_row W vb 0 _ _ (0, 0) hgv]; rfl
  have hov : ∀ lb cb, (callFunc 25 #[.slice (some ⟨vb, 0, none⟩) 1 1, .slice (some ⟨g, off + (i + 1), none⟩) lb cb]).run Try.prog W = .ok (.value (.bool false)) W := fun lb cb => by
    rw [run_callFunc_extern Try.func25 (by kernel_rfl) (by kernel_rfl) (by kernel_rfl) (e := Extern.SlicesOverlaps.overlaps #[28, 28] #[4]) (by kernel_rfl),
      Lib.run_overlaps_apart W 28 4 5 Try.underlying28 1 size8 ⟨vb, 0, none⟩ ⟨g, off + (i + 1), none⟩ 1 1 lb cb hvb 5 5 1 cur.length (by simp [World.shape?, hgv]) (by simp [World.shape?, hg]) (by omega) (frozen_of_row W vb 0 _ _ hgv) (frozen_of_row W vb 1 _ _ hgv)]
    rfl
  have hdl : (cs.drop i).length = n - i := by rw [List.length_drop, hcl]
  have hw1 : IntKind.i64.wrap ((i : Int) + 1) = (i : Int) + 1 := by rw [IntKind.wrap_i64]; omega
  have hb1 : (0 : Int) ≤ (i : Int) + 1 := by omega
  have hin : i ≤ n := by omega
  have htn : ((i : Int) + 1).toNat = i + 1 := by omega
  have hb2 : ¬ (c = i + 1) := by omega
  have hb3 : (i : Int) ≤ (n : Int) + 1 := by omega
  have hb4 : ¬ (c = i) := by omega
  have hcp1 : ∀ ty dc sc, (Builtin.copy_ #[28, 28] ty #[.slice (some ⟨g, off + (i + 1), none⟩) (n - i) dc, .slice (some ⟨g, off + i, none⟩) (n + 1 - i) sc]).run Try.prog W.drew = .ok (goInt (cs.drop i).length) (W.drew.setCells g (off + (i + 1)) (cs.drop i)) := fun ty dc sc =>
    run_copy_cells W.drew _ _ ty 5 g (off + (i + 1)) (n - i) dc ⟨g, off + i, none⟩ (n + 1 - i) sc (cs.drop i) Try.underlying28 size8' (by rw [hdl]; simp only [Nat.min_def]; split <;> omega)
      (fun j v hj => by rw [Addr.add_lit, Nat.add_assoc]; exact hcs (i + j) v (by rwa [List.getElem?_drop] at hj))
      (fun j hj => by rw [Nat.add_assoc]; exact hsp _ (by omega)) (fun j hj => hfz _) (fun v hv => h1c v (List.mem_of_mem_drop hv))
  obtain ⟨W1, hW1⟩ : ∃ W1, W1 = W.drew.setCells g (off + (i + 1)) (cs.drop i) := ⟨_, rfl⟩
  have hsp1 : ∀ k, k < n + 1 → (W1.cell? ⟨g, off + k, none⟩).isSome = true := fun k hk => by
    rw [hW1]
    exact World.isSome_setCells g _ _ _ _ (hsp k hk)
  have hcp2 : ∀ (V : World), (∀ x, V.cell? x = W1.cell? x) → (∀ x, V.frozen? x = W1.frozen? x) → ∀ ty dc, (Builtin.copy_ #[28, 28] ty #[.slice (some ⟨g, off + i, none⟩) (n + 1 - i) dc, .slice (some ⟨vb, 0, none⟩) 1 1]).run Try.prog V = .ok (goInt 1) (V.setCells g (off + i) [v]) := fun V hWc hWf ty dc =>
    run_copy_cells V _ _ ty 5 g (off + i) (n + 1 - i) dc ⟨vb, 0, none⟩ 1 1 [v] Try.underlying28 size8' (by show 1 = Nat.min 1 _; simp only [Nat.min_def]; split <;> omega)
      (fun j u hj => by
        rw [Addr.add_lit, hWc, hW1, World.cell?_setCells_out g _ _ _ _ (fun h _ => absurd h hvb)]
        rcases j with _ | j
        · simp at hj; subst hj; exact hvs
        · simp at hj)
      (fun j hj => by rw [hWc, Nat.add_assoc]; exact hsp1 _ (by simp at hj; omega)) (fun j hj => by rw [hWf, hW1, World.frozen?_setCells]; exact hfz _) (fun u hu => by simp at hu; subst hu; exact h1v)
  rw [← hW1] at hcp1
  clear hsp hfz hvs hsp1 hcs hg hgv hcur hdl
  go_enter Try.func24, Try.ntmps24
  go_wp2_with (simp only [hov])
  go_region_law_o (refine step_copy_runI rfl _ _ 28 28 rfl _ _ (by simp [Act.eval, Act.put]) (by simp [Act.eval, Act.put]) (hcp1 _ _ _) ?_)
  go_wp2_with (at_builtin; refine wpList_copy_runI _ rfl _ _ 28 28 rfl _ _ rfl rfl (hcp2 _ (fun _ => rfl) (fun _ => rfl) _ _) ?_)
  go_ret
  first | exact ⟨rfl, rfl⟩ | exact ⟨rfl, by rw [hW1]⟩
end Go.Proofs.Ytfneegndlkbgpaa

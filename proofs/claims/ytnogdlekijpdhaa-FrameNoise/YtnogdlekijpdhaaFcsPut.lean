/- The program's Put, with slices.Grow and slices.Concat, and the reference's Sum. Condition: each slice reads as its bytes. -/
import Derived.Test.YtnogdlekijpdhaaFcsMid
namespace Go.Proofs.Ytnogdlekijpdhaa
open Go.RowKit
open Fcs
set_option linter.unusedVariables false

theorem ret_sl {A : Option Addr} {n m c : Nat} (h : n = m) : Ending.returned (.slice A n c) = .returned (.slice A m c) := by rw [h]
theorem refSum_calls (wide : Bool) (A : Option Addr) (c : Nat) (l : List UInt8) (w : World) (hr : Rd w A l) (hl : l.length ≤ 140737488355000) :
    Calls Try.prog 18 #[.slice A l.length c, .bool wide] w fun e w' => ∃ B d, e = .returned (.slice B (l ++ sumB wide l).length d) ∧ Own w' w.heap.size B d (l ++ sumB wide l) ∧ Below w.heap.size w w' := by
  have hs4 : (sumB wide l).length ≤ 4 := by rw [sumB_len]; cases wide <;> decide
  obtain ⟨A1, c1, w1, run1, own1, bel1⟩ := run_app w w.heap.size none 0 [] (Own.nil _ _) A c l hr (by simp; omega) (Nat.le_refl _)
  rw [List.nil_append] at run1 own1
  obtain ⟨A2, c2, w2, run2, own2, bel2⟩ := run_app (laid w1 (sumB wide l)) w.heap.size A1 c1 l (own1.alloc _) (some ⟨w1.heap.size, 0, none⟩) (sumN wide) (sumB wide l) (laid_rd _ _) (by omega) (by rw [laid_size]; have := bel1.size; omega)
  have hr1 := hr.below bel1
  have B2 := (bel1.trans ((laid_below w1 (sumB wide l)).mono bel1.size)).trans bel2
  rw [sumB_len] at run2
  have hm : l.length ≤ maxLen := by unfold maxLen; omega
  go_enter Try.func18, Try.ntmps18
  go_wp2_with (at_builtin; refine Lib.wpList_append_run _ rfl _ _ _ _ rfl _ _ rfl rfl _ _ (run1 _) ?_)
  refine (refsum_calls wide A c l w1 hr1 hm).mono ?_
  rintro e w' ⟨rfl, rfl⟩
  go_wp2_with (at_builtin; refine Lib.wpList_append_run _ rfl _ _ _ _ rfl _ _ rfl rfl _ _ (run2 _) ?_)
  go_ret
  exact ⟨A2, c2, ret_sl (by simp), own2, B2⟩

theorem grow_calls (n : Nat) (hn : 0 < n) (hb : n ≤ 1048576) (w : World) :
    Calls Try.prog 32 #[.slice none 0 0, .int .i64 n] w fun e w' => ∃ A c, e = .returned (.slice A 0 c) ∧ Own w' w.heap.size A c [] ∧ Below w.heap.size w w' := by
  obtain ⟨i0, hi, hz0, hz1, hz2⟩ := info_parts info8
  have hold : (Builtin.firstCells i0.size 0 (.slice none 0 0)).run Try.prog w.drew = .ok ([] : List Value).toArray w.drew := run_firstCells_none w.drew i0.size 0 0 0
  have hz := fun ty => Lib.run_append_grow_zeros w 22 3 ty 5 i0 _ .i64 .i64 Try.underlying22 Try.underlying3 hi hz0 none 0 0 [] hold n hn (by omega) (by omega) (by omega) (by rw [hz2]; omega)
    (by rw [Nat.zero_add, hz2]; exact growslice_fits hn (by omega))
  rw [Nat.zero_add] at hz
  have hG1 : n ≤ grownCap w n 0 5 := grownCap_ge w _ _ _
  have hG2 := grownCap_le_maxLen w n 0 5 (by unfold maxLen; omega)
  generalize grownCap w n 0 5 = G at hz hG1 hG2
  have hz' : ∀ ty, (Builtin.append_ #[22, 3] ty #[.slice none 0 0, .int .i64 n]).run Try.prog w = .ok (.slice (some ⟨w.heap.size, 0, none⟩) n G) (w.drew.alloc (.cells (Builtin.zeroCells (Value.int .u8 0).cells n ++ Builtin.zeroCells (Value.int .u8 0).cells (G - n)) 5)) := by
    intro ty
    rw [hz ty]
    simp
  clear hz hold
  have hown : Own (w.drew.alloc (.cells (Builtin.zeroCells (Value.int .u8 0).cells n ++ Builtin.zeroCells (Value.int .u8 0).cells (G - n)) 5)) w.heap.size (some ⟨w.heap.size, 0, none⟩) G [] :=
    ⟨rfl, .inr ⟨_, _, _, rfl, Nat.le_refl _, heap_alloc_new w.drew _, Nat.zero_le _, hG2, by simp [Builtin.zeroCells, Value.cells]; omega, by simp⟩⟩
  have hbel : Below w.heap.size w (w.drew.alloc (.cells (Builtin.zeroCells (Value.int .u8 0).cells n ++ Builtin.zeroCells (Value.int .u8 0).cells (G - n)) 5)) := (Below.refl _ _).drew.alloc (Nat.le_refl _) _
  generalize (w.drew.alloc (.cells (Builtin.zeroCells (Value.int .u8 0).cells n ++ Builtin.zeroCells (Value.int .u8 0).cells (G - n)) 5)) = w1 at hz' hown hbel
  unfold maxLen at hG2
  go_enter Try.func32, Try.ntmps32
  go_wp2_with (at_builtin; refine Lib.wpList_append_run _ rfl _ _ _ _ rfl _ _ rfl rfl _ _ (hz' _) ?_)
  go_ret
  exact ⟨_, G, rfl, hown, hbel⟩

theorem concat_calls (g : Nat) (A : Option Addr) (c : Nat) (l : List UInt8) (B : Option Addr) (d : Nat) (m : List UInt8) (w : World)
    (h0 : w.cell? ⟨g, 0, none⟩ = some (.slice A l.length c)) (h1 : w.cell? ⟨g, 1, none⟩ = some (.slice B m.length d)) (hA : Rd w A l) (hB : Rd w B m) (hl : l.length ≤ 1000) (hm : m.length ≤ 1000) (hp : 0 < m.length) :
    Calls Try.prog 24 #[.slice (some ⟨g, 0, none⟩) 2 2] w fun e w' => ∃ A c, e = .returned (.slice A (l ++ m).length c) ∧ Own w' w.heap.size A c (l ++ m) ∧ Below w.heap.size w w' := by
  have hg : g < w.heap.size := World.block_lt_of_cell? w _ h0
  go_enter Try.func24, Try.ntmps24
  go_wp2
  refine wp_loop_rounds 3 ?_
  rw [rounds_succ]
  go_wp2
  rw [rounds_succ]
  go_wp2
  rw [rounds_succ]
  go_wp2_with fail
  have hgr := grow_calls (l.length + m.length) (by omega) (by omega) w
  rw [Int.natCast_add] at hgr
  with_reducible refine hgr.mono ?_
  rintro e w1 ⟨A1, c1, rfl, own1, bel1⟩
  clear hgr
  obtain ⟨A2, c2, w2, run2, own2, bel2⟩ := run_app w1 w.heap.size A1 c1 [] own1 A c l (hA.below bel1) (by simp; omega) bel1.size
  rw [List.nil_append] at run2 own2
  have b2 := bel1.trans bel2
  obtain ⟨A3, c3, w3, run3, own3, bel3⟩ := run_app w2 w.heap.size A2 c2 l own2 B d m (hB.below b2) (by omega) b2.size
  have b3 := b2.trans bel3
  have k0 : w1.cell? ⟨g, 0, none⟩ = some (.slice A l.length c) := (bel1.cell hg).trans h0
  have k1 : w2.cell? ⟨g, 1, none⟩ = some (.slice B m.length d) := (b2.cell hg).trans h1
  go_wp2
  refine wp_loop_rounds 3 ?_
  rw [rounds_succ]
  go_wp2_with (at_builtin; refine Lib.wpList_append_run _ rfl _ _ _ _ rfl _ _ rfl rfl _ _ (run2 _) ?_)
  rw [rounds_succ]
  go_wp2_with (at_builtin; refine Lib.wpList_append_run _ rfl _ _ _ _ rfl _ _ rfl rfl _ _ (run3 _) ?_)
  rw [rounds_succ]
  go_wp2
  go_ret
  exact ⟨A3, c3, ret_sl (by simp), own3, b3⟩

theorem own_mono {w : World} {b b' : Nat} {A : Option Addr} {c : Nat} {l : List UInt8} (h : Own w b A c l) (hb : b' ≤ b) : Own w b' A c l := by
  refine ⟨h.1, ?_⟩
  rcases h.2 with h0 | ⟨g, cap, cur, h1, h2, h3⟩
  · exact .inl h0
  · exact .inr ⟨g, cap, cur, h1, Nat.le_trans hb h2, h3⟩
theorem put_calls (wide : Bool) (A : Option Addr) (c : Nat) (l : List UInt8) (w : World) (hr : Rd w A l) (hl : l.length ≤ 1000) :
    Calls Try.prog 26 #[.slice A l.length c, .bool wide] w fun e w' => ∃ B d, e = .returned (.slice B (l ++ sumB wide l).length d) ∧ Own w' w.heap.size B d (l ++ sumB wide l) ∧ Below w.heap.size w w' := by
  have hn := sumB_len wide l
  have hs : 0 < sumN wide ∧ sumN wide ≤ 4 := by cases wide <;> decide
  have HN := Lib.hid hn
  clear hn
  go_enter Try.func26, Try.ntmps26
  go_wp2_with fail
  refine (checksum_calls wide A c l w hr (by unfold maxLen; omega)).mono ?_
  rintro e w' ⟨rfl, rfl⟩
  have hb : ((laid w (sumB wide l)).alloc (.cells #[.slice A l.length c, .slice (some ⟨w.heap.size, 0, none⟩) (sumN wide) (sumN wide)] 22)).heap[(laid w (sumB wide l)).heap.size]? = some (.cells #[.slice A l.length c, .slice (some ⟨w.heap.size, 0, none⟩) (sumN wide) (sumN wide)] 22 (0, 0)) := heap_alloc_new _ _
  have hc := concat_calls (laid w (sumB wide l)).heap.size A c l (some ⟨w.heap.size, 0, none⟩) (sumN wide) (sumB wide l) ((laid w (sumB wide l)).alloc (.cells #[.slice A l.length c, .slice (some ⟨w.heap.size, 0, none⟩) (sumN wide) (sumN wide)] 22))
    (by rw [cell_of_row _ _ 0 _ _ (0, 0) hb]; rfl) (by rw [cell_of_row _ _ 1 _ _ (0, 0) hb, HN.out]; rfl) ((hr.below (laid_below _ _)).alloc _) ((laid_rd _ _).alloc _) (by omega) (by rw [HN.out]; omega) (by rw [HN.out]; omega)
  have hbl := ((laid_below w (sumB wide l)).alloc (by rw [laid_size]; omega) (.cells #[.slice A l.length c, .slice (some ⟨w.heap.size, 0, none⟩) (sumN wide) (sumN wide)] 22))
  clear hb
  go_wp2_with fail
  refine hc.mono ?_
  rintro e w2 ⟨A2, c2, rfl, own2, bel2⟩
  clear hc
  go_wp2
  go_ret
  have hz := hbl.size
  exact ⟨A2, c2, ret_sl (by simp), own_mono own2 hz, hbl.trans (bel2.mono hz)⟩
end Go.Proofs.Ytnogdlekijpdhaa

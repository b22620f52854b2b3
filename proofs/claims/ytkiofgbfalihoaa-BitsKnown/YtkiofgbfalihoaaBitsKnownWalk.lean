/- The law BitsKnown, walked. No condition. -/
import Derived.Test.YtkiofgbfalihoaaBitRow
import Derived.Deep.RegionHeld
import Derived.Deep.Cut
namespace Go.Proofs.Ytkiofgbfalihoaa
open Go.RowKit
open Bit
set_option linter.unusedVariables false

def inp : List (List UInt8) := [[], [48], [49, 49, 49, 49, 49], [49, 49, 49, 49, 49, 49], [48, 49, 49, 49, 49, 49, 48], [49, 49, 49, 49, 49, 49, 49, 49, 49, 49], [49, 49, 49, 49, 48, 49, 49, 49]]
def wnt : List (List UInt8) := [[], [48], [49, 49, 49, 49, 49, 48], [49, 49, 49, 49, 49, 48, 49], [48, 49, 49, 49, 49, 49, 48, 48], [49, 49, 49, 49, 49, 48, 49, 49, 49, 49, 49, 48], [49, 49, 49, 49, 48, 49, 49, 49]]
theorem known_stuff : ∀ k, k < 7 → stuff 0 (rowOf (inp.getD k [])) = rowOf (wnt.getD k []) := by decide
theorem known_un : ∀ k, k < 7 → un 0 [] (rowOf (wnt.getD k [])) = (rowOf (inp.getD k []), 0) := by decide
/-- the two tables -/
def knownT (W : World) : World := (W.alloc (.cells (inp.map strV).toArray 9)).alloc (.cells (wnt.map strV).toArray 9)
theorem knownT_below (W : World) : Below W.heap.size W (knownT W) := ((Below.refl W.heap.size W).alloc (Nat.le_refl _) _).alloc (by simp) _
theorem at_map {α : Type} (f : α → Value) (L : List α) (d : α) (k : Nat) (h : k < L.length) : (L.map f).toArray[k]? = some (f (L.getD k d)) := by
  simp [List.getElem?_eq_getElem h]
theorem knownT_1 (W : World) (k : Nat) (h : k < 7) : (knownT W).cell? ⟨W.heap.size, k, none⟩ = some (strV (inp.getD k [])) := by
  rw [← at_map strV inp [] k h]
  refine cell_of_row _ _ k _ 9 (0, 0) ?_
  unfold knownT
  rw [Below.heap_alloc _ _ _ (by simp)]
  exact heap_alloc_new W _
theorem knownT_2 (W : World) (k : Nat) (h : k < 7) : (knownT W).cell? ⟨W.heap.size + 1, k, none⟩ = some (strV (wnt.getD k [])) := by
  rw [← at_map strV wnt [] k h]
  refine cell_of_row _ _ k _ 9 (0, 0) ?_
  unfold knownT
  have := heap_alloc_new (W.alloc (.cells (inp.map strV).toArray 9)) (.cells (wnt.map strV).toArray 9)
  simpa using this

theorem BitsKnown_far (a : Int) (w : World) (h : a < 0 ∨ 7 ≤ a) :
    Calls Try.prog 7 #[.int .i64 a] w fun e w' => e = .returned (.bool true) ∧ Below w.heap.size w w' := by
  rcases h with h | h
  · go_enter Try.func7, Try.ntmps7
    go_wp2_with fail
    refine (alive_calls w).mono ?_
    rintro e W ⟨rfl, hb⟩
    go_wp2
    go_ret
    exact ⟨rfl, hb.trans ((knownT_below W).mono hb.size)⟩
  · have h0 : ¬ a < 0 := by omega
    go_enter Try.func7, Try.ntmps7
    go_wp2_with fail
    refine (alive_calls w).mono ?_
    rintro e W ⟨rfl, hb⟩
    go_wp2
    go_ret
    exact ⟨rfl, hb.trans ((knownT_below W).mono hb.size)⟩

set_option maxHeartbeats 2000000 in
theorem BitsKnown_near (k : Nat) (w : World) (h : k < 7) :
    Calls Try.prog 7 #[.int .i64 (k : Int)] w fun e w' => e = .returned (.bool true) ∧ Below w.heap.size w w' := by
  have hxl : (inp.getD k []).length ≤ 12 ∧ (wnt.getD k []).length ≤ 12 := by
    have : ∀ k, k < 7 → (inp.getD k []).length ≤ 12 ∧ (wnt.getD k []).length ≤ 12 := by decide
    exact this k h
  have hst := known_stuff k h
  have hun := known_un k h
  have hla := rowOf_len (inp.getD k [])
  have hlb := rowOf_len (wnt.getD k [])
  have RA := Lib.hid (fun (w : World) => row_calls (inp.getD k []) w (by omega))
  have RB := Lib.hid (fun (w : World) => row_calls (wnt.getD k []) w (by omega))
  have UB : Hid (∀ (A : Option Addr) (c : Nat) (w : World), Rd w A (rowOf (wnt.getD k [])) → Calls Try.prog 11 #[.slice A (rowOf (wnt.getD k [])).length c] w fun e w' => ∃ A c, e = .returned (.tuple #[.slice A (rowOf (inp.getD k [])).length c, .int .i64 0]) ∧ Rd w' A (rowOf (inp.getD k [])) ∧ Below w.heap.size w w') := Lib.hid fun A c w hr => by
    have := unstuff_calls A c _ w hr (by omega)
    rw [hun] at this
    exact this
  have SA : Hid (∀ (A : Option Addr) (c : Nat) (w : World), Rd w A (rowOf (inp.getD k [])) → Calls Try.prog 10 #[.slice A (rowOf (inp.getD k [])).length c] w (GivesOwn (rowOf (wnt.getD k [])) w)) := Lib.hid fun A c w hr => by
    have := stuff_calls A c _ w hr (by omega)
    rw [hst] at this
    exact this
  have R4 : Hid (∀ w : World, Calls Try.prog 18 #[.string ⟨#[48, 49, 49, 49, 49, 49, 49]⟩] w fun e w' => ∃ A c, e = .returned (.slice A 7 c) ∧ Rd w' A [0, 1, 1, 1, 1, 1, 1] ∧ Below w.heap.size w w') := Lib.hid fun w => by
    refine (row_calls [48, 49, 49, 49, 49, 49, 49] w (by simp)).mono ?_
    rintro e w' ⟨A, c, rfl, own, bel⟩
    exact ⟨A, c, rfl, own.rd, bel⟩
  have U4 : Hid (∀ (A : Option Addr) (c : Nat) (w : World), Rd w A [0, 1, 1, 1, 1, 1, 1] → Calls Try.prog 11 #[.slice A 7 c] w fun e w' => ∃ A c, e = .returned (.tuple #[.slice A 0 c, .int .i64 4]) ∧ Below w.heap.size w w') := Lib.hid fun A c w hr => by
    refine (unstuff_calls A c [0, 1, 1, 1, 1, 1, 1] w hr (by simp)).mono ?_
    rintro e w' ⟨A, c, rfl, _, bel⟩
    exact ⟨A, c, rfl, bel⟩
  have R3 : Hid (∀ w : World, Calls Try.prog 18 #[.string ⟨#[48, 49, 49, 49, 49, 49]⟩] w fun e w' => ∃ A c, e = .returned (.slice A 6 c) ∧ Rd w' A [0, 1, 1, 1, 1, 1] ∧ Below w.heap.size w w') := Lib.hid fun w => by
    refine (row_calls [48, 49, 49, 49, 49, 49] w (by simp)).mono ?_
    rintro e w' ⟨A, c, rfl, own, bel⟩
    exact ⟨A, c, rfl, own.rd, bel⟩
  have U3 : Hid (∀ (A : Option Addr) (c : Nat) (w : World), Rd w A [0, 1, 1, 1, 1, 1] → Calls Try.prog 11 #[.slice A 6 c] w fun e w' => ∃ A c, e = .returned (.tuple #[.slice A 0 c, .int .i64 3]) ∧ Below w.heap.size w w') := Lib.hid fun A c w hr => by
    refine (unstuff_calls A c [0, 1, 1, 1, 1, 1] w hr (by simp)).mono ?_
    rintro e w' ⟨A, c, rfl, _, bel⟩
    exact ⟨A, c, rfl, bel⟩
  clear hst hun hla hlb hxl
  go_enter Try.func7, Try.ntmps7
  go_wp2_with fail
  refine (alive_calls w).mono ?_
  rintro e W ⟨rfl, hb⟩
  have t1 := knownT_1 W k h
  have t2 := knownT_2 W k h
  have bt := hb.trans ((knownT_below W).mono hb.size)
  go_upto_region 6 with (fail)
  change Code.wp _ _ _ _ (knownT W)
  generalize knownT W = V at *
  generalize inp.getD k [] = x at *
  generalize wnt.getD k [] = y at *
  generalize rowOf x = a at *
  generalize rowOf y = b at *
  unfold strV at t1 t2
  have i0 : (0 : Int) ≤ (k : Int) := by omega
  have i1 : (k : Int) < 7 := by omega
  have v2 := World.block_lt_of_cell? V _ t2
  go_wp2_with fail
  refine (RA.out V).mono ?_
  rintro e w1 ⟨A1, c1, rfl, own1, bel1⟩
  have r1 := own1.rd
  have b1 := bt.trans (bel1.mono bt.size)
  have t3 : w1.cell? ⟨W.heap.size + 1, k, none⟩ = some (.string ⟨y.toArray⟩) := (bel1.cell v2).trans t2
  clear t1 t2 own1
  go_wp2_with fail
  refine (RB.out w1).mono ?_
  rintro e w2 ⟨A2, c2, rfl, own2, bel2⟩
  have r2 := own2.rd
  have b2 := b1.trans (bel2.mono b1.size)
  clear t3 own2
  go_wp2_with fail
  refine (UB.out A2 c2 w2 r2).mono ?_
  rintro e w3 ⟨A3, c3, rfl, r3, bel3⟩
  have b3 := b2.trans (bel3.mono b2.size)
  go_wp2_with fail
  refine (R4.out w3).mono ?_
  rintro e w4 ⟨A4, c4, rfl, r4, bel4⟩
  have b4 := b3.trans (bel4.mono b3.size)
  go_wp2_with fail
  refine (U4.out A4 c4 w4 r4).mono ?_
  rintro e w5 ⟨A5, c5, rfl, bel5⟩
  have b5 := b4.trans (bel5.mono b4.size)
  go_wp2_with fail
  refine (R3.out w5).mono ?_
  rintro e w6 ⟨A6, c6, rfl, r6, bel6⟩
  have b6 := b5.trans (bel6.mono b5.size)
  go_wp2_with fail
  refine (U3.out A6 c6 w6 r6).mono ?_
  rintro e w7 ⟨A7, c7, rfl, bel7⟩
  have b7 := b6.trans (bel7.mono b6.size)
  have k1 := (((((r1.below bel2).below bel3).below bel4).below bel5).below bel6).below bel7
  have k2 := ((((r2.below bel3).below bel4).below bel5).below bel6).below bel7
  have k3 := (((r3.below bel4).below bel5).below bel6).below bel7
  have sa := SA.out A1 c1 w7.drew k1.drew
  have hk : ∀ w', Below w7.drew.heap.size w7.drew w' → ((convert 22 9 (.slice A1 a.length c1)).run Try.prog w' = .ok (.string ⟨a.toArray⟩) w' ∧ (convert 22 9 (.slice A2 b.length c2)).run Try.prog w' = .ok (.string ⟨b.toArray⟩) w' ∧ (convert 22 9 (.slice A3 a.length c3)).run Try.prog w' = .ok (.string ⟨a.toArray⟩) w') := by
    intro w' hw
    exact ⟨run_conv w' A1 c1 a (k1.drew.below hw), run_conv w' A2 c2 b (k2.drew.below hw), run_conv w' A3 c3 a (k3.drew.below hw)⟩
  have HK := Lib.hid hk
  clear hk
  go_wp2_with fail
  go_region_held (fun w' => (convert 22 9 (.slice A1 a.length c1)).run Try.prog w' = .ok (.string ⟨a.toArray⟩) w' ∧ (convert 22 9 (.slice A2 b.length c2)).run Try.prog w' = .ok (.string ⟨b.toArray⟩) w' ∧ (convert 22 9 (.slice A3 a.length c3)).run Try.prog w' = .ok (.string ⟨a.toArray⟩) w') (first | exact HK.out _ (Below.refl _ _) | exact HK.out _ (by assumption))
    (first | (go_at_call 10; refine sa.mono ?_; rintro e w8 ⟨A8, c8, rfl, own8, bel8⟩; have q8 := run_conv w8 A8 c8 _ own8.rd; unfold strV at q8) | (go_at_call 15; refine (num_calls _ _).mono ?_; rintro e w' ⟨rfl, rfl⟩))
  all_goals
    go_wp2
    go_ret
    exact ⟨rfl, b7.drew.trans (bel8.mono b7.size)⟩
theorem BitsKnown_walk (a0 : Int) (w0 : (Lit.int .i64 a0).wf = true) (w : World) : Calls Try.prog 7 #[.int .i64 a0] w fun e w' => e = .returned (.bool true) ∧ Below w.heap.size w w' := by
  by_cases h : a0 < 0 ∨ 7 ≤ a0
  · exact BitsKnown_far a0 w h
  · obtain ⟨k, rfl⟩ : ∃ k : Nat, a0 = (k : Int) := ⟨a0.toNat, by omega⟩
    exact BitsKnown_near k w (by omega)
end Go.Proofs.Ytkiofgbfalihoaa

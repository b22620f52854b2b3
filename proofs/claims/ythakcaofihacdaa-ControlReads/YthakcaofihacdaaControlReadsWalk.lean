/- The law ControlReads, walked. Condition: the slice reads as its bytes. -/
import Derived.Test.YthakcaofihacdaaCtlAlive
import Derived.Test.YthakcaofihacdaaCtlRefRead2
import Derived.Test.YthakcaofihacdaaCtlEq
namespace Go.Proofs.Ythakcaofihacdaa
open Go.RowKit
set_option linter.unusedVariables false

theorem ControlReads_far (A : Option Addr) (n c : Nat) (m : Int) (w : World) (hl : 50 < n) (hm : n ≤ 9223372036854775807) :
    Calls Try.prog 4 #[.slice A n c, .int .i64 m] w fun e w' => e = .returned (.bool true) ∧ Below w.heap.size w w' := by
  go_enter Try.func4, Try.ntmps4
  go_wp2_with fail
  refine (alive_calls w).mono ?_
  rintro e w' ⟨rfl, hb⟩
  go_wp2
  go_ret
  exact ⟨rfl, hb⟩
set_option maxHeartbeats 800000 in
theorem ControlReads_near (A : Option Addr) (c : Nat) (l : List UInt8) (m : Int) (w : World) (hr : Rd w A l) (hl : l.length ≤ 50) :
    Calls Try.prog 4 #[.slice A l.length c, .int .i64 m] w fun e w' => e = .returned (.bool true) ∧ Below w.heap.size w w' := by
  have HR := Lib.hid hr
  clear hr
  have Q := Lib.hid ctl_eql
  go_enter Try.func4, Try.ntmps4
  go_wp2_with fail
  refine (alive_calls w).mono ?_
  rintro e W ⟨rfl, hb⟩
  obtain ⟨A1, c1, w1, run1, own1, bel1⟩ := run_app W W.heap.size none 0 [] (Own.nil _ _) A c l (HR.out.below hb) (by simp; omega) (Nat.le_refl _)
  rw [List.nil_append] at run1 own1
  have b1 := hb.trans (bel1.mono hb.size)
  have RC := read_calls A1 c1 l m w1 own1.rd (by omega)
  clear own1 bel1
  go_wp2_with (at_builtin; refine Lib.wpList_append_run _ rfl _ _ _ _ rfl _ _ rfl rfl _ _ (run1 _) ?_)
  refine RC.mono ?_
  obtain ⟨r, hrr⟩ : ∃ r, rdC l m = r := ⟨_, rfl⟩
  have HRR := Lib.hid hrr
  rw [hrr]
  clear RC run1 hrr
  obtain ⟨⟨rk, rs, rr, rp⟩, rn, re⟩ := r
  rintro e w2 ⟨rfl, bel2⟩
  unfold cv
  dsimp only
  have b2 := b1.trans (bel2.mono b1.size)
  clear bel2 hb
  have RR := fun o => refRead_calls A c l m (w2.alloc o) ((HR.out.below b2).alloc o) (by omega)
  rw [HRR.out] at RR
  unfold GivesC cv at RR
  dsimp only at RR
  go_wp2_with fail
  refine (RR _).mono ?_
  rintro e w3 ⟨rfl, bel3⟩
  clear RR
  have hh : w3.heap[w2.heap.size]? = some (.cells #[.int .i64 rk, .int .i64 rs, .int .i64 rr, .bool rp] 23 (0, 0)) := (bel3.block w2.heap.size (by simp)).trans (heap_alloc_new w2 _)
  have k0 : w3.cell? ⟨w2.heap.size, 0, none⟩ = some (.int .i64 rk) := by rw [cell_of_row w3 _ 0 _ _ (0, 0) hh]; rfl
  have k1 : w3.cell? ⟨w2.heap.size, 1, none⟩ = some (.int .i64 rs) := by rw [cell_of_row w3 _ 1 _ _ (0, 0) hh]; rfl
  have k2 : w3.cell? ⟨w2.heap.size, 2, none⟩ = some (.int .i64 rr) := by rw [cell_of_row w3 _ 2 _ _ (0, 0) hh]; rfl
  have k3 : w3.cell? ⟨w2.heap.size, 3, none⟩ = some (.bool rp) := by rw [cell_of_row w3 _ 3 _ _ (0, 0) hh]; rfl
  have lt : w2.heap.size < w3.heap.size := World.block_lt_of_cell? w3 _ k0
  have b3 : Below w.heap.size w w3 := (ba b2).trans (bel3.mono (ba b2).size)
  have qe : ∀ v, (binOp .eql 23 (.agg #[.int .i64 rk, .int .i64 rs, .int .i64 rr, .bool rp]) (.agg #[.int .i64 rk, .int .i64 rs, .int .i64 rr, .bool rp])).run Try.prog v = .ok (.bool true) v := fun v => by
    rw [Q.out]
    simp
  have gd := ctlGuard
  have FB := Lib.hid (fun o => ba (o := o) b3)
  clear hh bel3 b1 b2 b3
  go_wp2_with fail
  refine (num_calls re _).mono ?_
  rintro e w' ⟨rfl, rfl⟩
  go_wp2
  go_ret
  exact ⟨by first | rfl | simp, FB.out _⟩
theorem ControlReads_walk (a0 : Option Addr) (len0 cap0 : Nat) (z0 : List Int) (a1 : Int) (w : World)
    (h : (a0 = none ∧ len0 = 0 ∧ cap0 = 0 ∧ z0 = []) ∨ ∃ x, a0 = some x ∧ len0 ≤ cap0 ∧ cap0 ≤ maxLen ∧ z0.length = cap0 ∧ (∀ i, i < z0.length → w.cell? (x.add i) = some (.int .u8 (z0.getD i 0))) ∧ ∀ n ∈ z0, (Lit.int .u8 n).wf = true) (w1 : (Lit.int .i64 a1).wf = true) :
    Calls Try.prog 4 #[.slice a0 len0 cap0, .int .i64 a1] w fun e w' => e = .returned (.bool true) ∧ Below w.heap.size w w' := by
  obtain ⟨l, rfl, hc, hm, hr⟩ := Rd.of_row h
  by_cases hl : l.length ≤ 50
  · exact ControlReads_near a0 cap0 l a1 w hr hl
  · exact ControlReads_far a0 l.length cap0 a1 w (by omega) (by unfold maxLen at hm; omega)
end Go.Proofs.Ythakcaofihacdaa

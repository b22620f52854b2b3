/- slices.Concat of three slices; the frame of a body as three parts. Condition: each slice reads as its octets, at most 5000. -/
import Derived.Test.YtnogdlekijpdhaaFraPlain
import Derived.Test.YtnogdlekijpdhaaBytesOnly
import Derived.Test.YtnogdlekijpdhaaOctStuff
namespace Go.Proofs.Ytnogdlekijpdhaa
open Go.RowKit
open Fcs Oct Fra
set_option linter.unusedVariables false

set_option maxHeartbeats 1000000 in
theorem concat3_calls (g : Nat) (A : Option Addr) (c : Nat) (l : List UInt8) (B : Option Addr) (d : Nat) (m : List UInt8) (C : Option Addr) (k : Nat) (n : List UInt8) (w : World)
    (h0 : w.cell? ⟨g, 0, none⟩ = some (.slice A l.length c)) (h1 : w.cell? ⟨g, 1, none⟩ = some (.slice B m.length d)) (h2 : w.cell? ⟨g, 2, none⟩ = some (.slice C n.length k)) (hA : Rd w A l) (hB : Rd w B m) (hC : Rd w C n) (hl : l.length ≤ 5000) (hm : m.length ≤ 5000) (hn : n.length ≤ 5000) (hp : 0 < n.length) :
    Calls Try.prog 24 #[.slice (some ⟨g, 0, none⟩) 3 3] w (GivesOwn (l ++ m ++ n) w) := by
  have hg : g < w.heap.size := World.block_lt_of_cell? w _ h0
  go_enter Try.func24, Try.ntmps24
  go_wp2
  refine wp_loop_rounds 4 ?_
  rw [rounds_succ]
  go_wp2
  rw [rounds_succ]
  go_wp2
  rw [rounds_succ]
  go_wp2
  rw [rounds_succ]
  go_wp2_with fail
  have hgr := grow_calls (l.length + m.length + n.length) (by omega) (by omega) w
  rw [Int.natCast_add, Int.natCast_add] at hgr
  with_reducible refine hgr.mono ?_
  rintro e w1 ⟨A1, c1, rfl, own1, bel1⟩
  clear hgr
  obtain ⟨A2, c2, w2, run2, own2, bel2⟩ := run_app w1 w.heap.size A1 c1 [] own1 A c l (hA.below bel1) (by simp; omega) bel1.size
  rw [List.nil_append] at run2 own2
  have b2 := bel1.trans bel2
  obtain ⟨A3, c3, w3, run3, own3, bel3⟩ := run_app w2 w.heap.size A2 c2 l own2 B d m (hB.below b2) (by omega) b2.size
  have b3 := b2.trans bel3
  obtain ⟨A4, c4, w4, run4, own4, bel4⟩ := run_app w3 w.heap.size A3 c3 (l ++ m) own3 C k n (hC.below b3) (by simp; omega) b3.size
  have b4 := b3.trans bel4
  have k0 : w1.cell? ⟨g, 0, none⟩ = some (.slice A l.length c) := (bel1.cell hg).trans h0
  have k1 : w2.cell? ⟨g, 1, none⟩ = some (.slice B m.length d) := (b2.cell hg).trans h1
  have k2 : w3.cell? ⟨g, 2, none⟩ = some (.slice C n.length k) := (b3.cell hg).trans h2
  generalize l ++ m = lm at *
  generalize lm ++ n = lmn at *
  go_wp2
  refine wp_loop_rounds 4 ?_
  rw [rounds_succ]
  go_wp2_with (at_builtin; refine Lib.wpList_append_run _ rfl _ _ _ _ rfl _ _ rfl rfl _ _ (run2 _) ?_)
  rw [rounds_succ]
  go_wp2_with (at_builtin; refine Lib.wpList_append_run _ rfl _ _ _ _ rfl _ _ rfl rfl _ _ (run3 _) ?_)
  rw [rounds_succ]
  go_wp2_with (at_builtin; refine Lib.wpList_append_run _ rfl _ _ _ _ rfl _ _ rfl rfl _ _ (run4 _) ?_)
  rw [rounds_succ]
  go_wp2
  go_ret
  exact ⟨A4, c4, rfl, own4, b4⟩

theorem frame_eq (wide : Bool) (body : List UInt8) : [126] ++ stuff (body ++ sumB wide body) ++ [126] = frame wide body := by simp [frame, Fra.rest]
theorem sums_len (wide : Bool) (body : List UInt8) (h : body.length ≤ 1000) : (body ++ sumB wide body).length ≤ 1004 ∧ (stuff (body ++ sumB wide body)).length ≤ 2008 := by
  have h1 := sum_len (wide := wide) body
  have h2 := (stuff_len (body ++ sumB wide body)).2
  have h3 : sumN wide ≤ 4 := by cases wide <;> decide
  omega
theorem frame_len (wide : Bool) (body : List UInt8) (h : body.length ≤ 1000) : (frame wide body).length ≤ 2010 ∧ 2 ≤ (frame wide body).length := by
  rw [← frame_eq]
  have := sums_len wide body h
  simp
  omega
end Go.Proofs.Ytnogdlekijpdhaa

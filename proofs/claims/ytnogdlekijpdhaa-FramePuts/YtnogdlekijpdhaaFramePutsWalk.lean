/- The law FramePuts, walked. Condition: the slice reads as its octets. -/
import Derived.Test.YtnogdlekijpdhaaFraAlive
import Derived.Test.YtnogdlekijpdhaaStepApp
namespace Go.Proofs.Ytnogdlekijpdhaa
open Go.RowKit
open Fcs Oct Fra
set_option linter.unusedVariables false

theorem FramePuts_far (A : Option Addr) (n c : Nat) (wide : Bool) (w : World) (hl : 500 < n) (hm : n ≤ 9223372036854775807) :
    Calls Try.prog 4 #[.slice A n c, .bool wide] w fun e w' => e = .returned (.bool true) ∧ Below w.heap.size w w' := by
  go_enter Try.func4, Try.ntmps4
  go_wp2_with fail
  refine (alive_calls w).mono ?_
  rintro e w' ⟨rfl, hb⟩
  go_wp2
  go_ret
  exact ⟨rfl, hb⟩
set_option maxHeartbeats 1000000 in
theorem FramePuts_near (A : Option Addr) (c : Nat) (l : List UInt8) (wide : Bool) (w : World) (hr : Rd w A l) (hl : l.length ≤ 500) :
    Calls Try.prog 4 #[.slice A l.length c, .bool wide] w fun e w' => e = .returned (.bool true) ∧ Below w.heap.size w w' := by
  have pc := Lib.hid (fun (A : Option Addr) (c : Nat) (w : World) (hr : Rd w A l) => frput_calls wide A c l w hr (by omega))
  have rc := Lib.hid (fun (A : Option Addr) (c : Nat) (w : World) (hr : Rd w A l) => refFrame_calls wide A c l w hr (by omega))
  generalize frame wide l = f at *
  go_enter Try.func4, Try.ntmps4
  go_wp2_with fail
  refine (alive_calls w).mono ?_
  rintro e W ⟨rfl, hb⟩
  have hrw := hr.below hb
  obtain ⟨A1, c1, w1, run1, own1, bel1⟩ := run_app W.drew W.heap.size none 0 [] (Own.nil _ _) A c l hrw.drew (by simp; omega) (Nat.le_refl _)
  rw [List.nil_append] at run1 own1
  have b1 : Below w.heap.size w w1 := (hb.drew).trans (bel1.mono hb.size)
  have p1 := pc.out A1 c1 w1 own1.rd
  have R1 := Lib.hid (hr.below b1)
  clear own1 pc hr hrw
  go_wp2_with fail
  go_region_held_law (fun w' => True) (trivial) (first | ((refine step_append_run _ (by rfl) _ _ _ _ (by rfl) _ _ (by rfl) (by rfl) _ _ (run1 _) ?_)) | (go_at_call 15; refine p1.mono ?_; rintro e w2 ⟨A2, c2, rfl, own2, bel2⟩; have q2 := run_conv w2 A2 c2 _ own2.rd; unfold strV at q2; have p2 := rc.out A c w2 (R1.out.below bel2)) | (go_at_call 16; refine p2.mono ?_; rintro e w3 ⟨A3, c3, rfl, own3, bel3⟩; have q3 := run_conv w3 A3 c3 _ own3.rd; have q4 := run_conv w3 A2 c2 _ (own2.rd.below bel3); unfold strV at q3 q4; have B3 := Lib.hid (b1.trans ((bel2.mono b1.size).trans (bel3.mono (Nat.le_trans b1.size bel2.size))))))
  all_goals
    go_wp2
    go_ret
    exact ⟨rfl, B3.out⟩
theorem FramePuts_walk (a0 : Option Addr) (len0 cap0 : Nat) (z0 : List Int) (a1 : Bool) (w : World)
    (h : (a0 = none ∧ len0 = 0 ∧ cap0 = 0 ∧ z0 = []) ∨ ∃ x, a0 = some x ∧ len0 ≤ cap0 ∧ cap0 ≤ maxLen ∧ z0.length = cap0 ∧ (∀ i, i < z0.length → w.cell? (x.add i) = some (.int .u8 (z0.getD i 0))) ∧ ∀ n ∈ z0, (Lit.int .u8 n).wf = true) :
    Calls Try.prog 4 #[.slice a0 len0 cap0, .bool a1] w fun e w' => e = .returned (.bool true) ∧ Below w.heap.size w w' := by
  obtain ⟨l, rfl, hc, hm, hr⟩ := Rd.of_row h
  by_cases hl : l.length ≤ 500
  · exact FramePuts_near a0 cap0 l a1 w hr hl
  · exact FramePuts_far a0 l.length cap0 a1 w (by omega) (by unfold maxLen at hm; omega)
end Go.Proofs.Ytnogdlekijpdhaa

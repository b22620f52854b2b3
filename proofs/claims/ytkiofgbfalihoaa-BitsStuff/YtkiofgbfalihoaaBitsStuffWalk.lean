/- The law BitsStuff, walked. Condition: the slice reads as its bytes. -/
import Derived.Test.YtkiofgbfalihoaaBitBytes
import Derived.Test.YtkiofgbfalihoaaBitNum
import Derived.Deep.RegionHeld
namespace Go.Proofs.Ytkiofgbfalihoaa
open Go.RowKit
open Bit
set_option linter.unusedVariables false

theorem BitsStuff_far (A : Option Addr) (n c : Nat) (w : World) (hl : 500 < n) (hm : n ≤ 9223372036854775807) :
    Calls Try.prog 4 #[.slice A n c] w fun e w' => e = .returned (.bool true) ∧ Below w.heap.size w w' := by
  go_enter Try.func4, Try.ntmps4
  go_wp2_with fail
  refine (alive_calls w).mono ?_
  rintro e w' ⟨rfl, hb⟩
  go_wp2
  go_ret
  exact ⟨rfl, hb⟩
set_option maxHeartbeats 2000000 in
theorem BitsStuff_near (A : Option Addr) (c : Nat) (l : List UInt8) (w : World) (hr : Rd w A l) (hl : l.length ≤ 500) :
    Calls Try.prog 4 #[.slice A l.length c] w fun e w' => e = .returned (.bool true) ∧ Below w.heap.size w w' := by
  obtain ⟨u, ue, hu⟩ : ∃ u ue, un 0 [] l = (u, ue) := ⟨_, _, rfl⟩
  obtain ⟨p, pe, hp⟩ : ∃ p pe, pack l = (p, pe) := ⟨_, _, rfl⟩
  have UC : Hid (∀ (A : Option Addr) (c : Nat) (w : World), Rd w A l → Calls Try.prog 11 #[.slice A l.length c] w fun e w' => ∃ A c, e = .returned (.tuple #[.slice A u.length c, .int .i64 ue]) ∧ Rd w' A u ∧ Below w.heap.size w w') := Lib.hid fun A c w hr => by
    have := unstuff_calls A c l w hr (by omega)
    rw [hu] at this
    exact this
  have RC : Hid (∀ (A : Option Addr) (c : Nat) (w : World), Rd w A l → Calls Try.prog 16 #[.slice A l.length c] w fun e w' => ∃ A c, e = .returned (.tuple #[.slice A u.length c, .int .i64 ue]) ∧ Rd w' A u ∧ Below w.heap.size w w') := Lib.hid fun A c w hr => by
    have := refUnstuff_calls A c l w hr (by omega)
    rw [hu] at this
    exact this
  have PC : Hid (∀ (A : Option Addr) (c : Nat) (w : World), Rd w A l → Calls Try.prog 12 #[.slice A l.length c] w fun e w' => ∃ A c, e = .returned (.tuple #[.slice A p.length c, .int .i64 pe]) ∧ Rd w' A p ∧ Below w.heap.size w w') := Lib.hid fun A c w hr => by
    have := bytes_calls A c l w hr (by omega)
    rw [hp] at this
    exact this
  have QC : Hid (∀ (A : Option Addr) (c : Nat) (w : World), Rd w A l → Calls Try.prog 17 #[.slice A l.length c] w fun e w' => ∃ A c, e = .returned (.tuple #[.slice A p.length c, .int .i64 pe]) ∧ Rd w' A p ∧ Below w.heap.size w w') := Lib.hid fun A c w hr => by
    have := refBytes_calls A c l w hr (by omega)
    rw [hp] at this
    exact this
  have SC := Lib.hid (fun (w : World) (hr : Rd w A l) => stuff_calls A c l w hr (by omega))
  have TC := Lib.hid (fun (w : World) (hr : Rd w A l) => refStuff_calls A c l w hr (by omega))
  clear hu hp
  generalize stuff 0 l = s at *
  go_enter Try.func4, Try.ntmps4
  go_wp2_with fail
  refine (alive_calls w).mono ?_
  rintro e W ⟨rfl, hb⟩
  obtain ⟨A1, c1, w1, run1, own1, bel1⟩ := run_app W W.heap.size none 0 [] (Own.nil _ _) A c l (hr.below hb) (by simp; omega) (Nat.le_refl _)
  rw [List.nil_append] at run1 own1
  have b1 := hb.trans (bel1.mono hb.size)
  have r1 := own1.rd
  clear own1 bel1
  go_wp2_with (at_builtin; refine Lib.wpList_append_run _ rfl _ _ _ _ rfl _ _ rfl rfl _ _ (run1 _) ?_)
  refine (UC.out A1 c1 w1 r1).mono ?_
  rintro e w2 ⟨A2, c2, rfl, r2, bel2⟩
  clear run1
  have b2 := b1.trans (bel2.mono b1.size)
  go_wp2_with fail
  refine (RC.out A c w2 (hr.below b2)).mono ?_
  rintro e w3 ⟨A3, c3, rfl, r3, bel3⟩
  have b3 := b2.trans (bel3.mono b2.size)
  go_wp2_with fail
  refine (PC.out A c w3 (hr.below b3)).mono ?_
  rintro e w4 ⟨A4, c4, rfl, r4, bel4⟩
  have b4 := b3.trans (bel4.mono b3.size)
  go_wp2_with fail
  refine (QC.out A c w4 (hr.below b4)).mono ?_
  rintro e w5 ⟨A5, c5, rfl, r5, bel5⟩
  have b5 := b4.trans (bel5.mono b4.size)
  have sa := SC.out w5.drew ((hr.below b5).drew)
  have hk : ∀ w', Below w5.drew.heap.size w5.drew w' → ((convert 22 9 (.slice A2 u.length c2)).run Try.prog w' = .ok (.string ⟨u.toArray⟩) w' ∧ (convert 22 9 (.slice A3 u.length c3)).run Try.prog w' = .ok (.string ⟨u.toArray⟩) w' ∧ (convert 22 9 (.slice A4 p.length c4)).run Try.prog w' = .ok (.string ⟨p.toArray⟩) w' ∧ (convert 22 9 (.slice A5 p.length c5)).run Try.prog w' = .ok (.string ⟨p.toArray⟩) w') := by
    intro w' hw
    exact ⟨run_conv w' A2 c2 u ((((r2.below bel3).below bel4).below bel5).drew.below hw), run_conv w' A3 c3 u (((r3.below bel4).below bel5).drew.below hw), run_conv w' A4 c4 p ((r4.below bel5).drew.below hw), run_conv w' A5 c5 p (r5.drew.below hw)⟩
  have HK := Lib.hid hk
  clear hk
  go_wp2_with fail
  go_region_held (fun w' => (convert 22 9 (.slice A2 u.length c2)).run Try.prog w' = .ok (.string ⟨u.toArray⟩) w' ∧ (convert 22 9 (.slice A3 u.length c3)).run Try.prog w' = .ok (.string ⟨u.toArray⟩) w' ∧ (convert 22 9 (.slice A4 p.length c4)).run Try.prog w' = .ok (.string ⟨p.toArray⟩) w' ∧ (convert 22 9 (.slice A5 p.length c5)).run Try.prog w' = .ok (.string ⟨p.toArray⟩) w') (first | exact HK.out _ (Below.refl _ _) | exact HK.out _ (by assumption))
    (first | (go_at_call 10; refine sa.mono ?_; rintro e w6 ⟨A6, c6, rfl, own6, bel6⟩; have q6 := run_conv w6 A6 c6 _ own6.rd; unfold strV at q6; have sb6 := TC.out w6 (((hr.below b5).drew).below bel6)) | (go_at_call 14; refine sb6.mono ?_; rintro e w7 ⟨A7, c7, rfl, own7, bel7⟩; have q7 := run_conv w7 A7 c7 _ own7.rd; have q8 := run_conv w7 A6 c6 _ (own6.rd.below bel7); unfold strV at q7 q8; have bel67 := bel6.trans (bel7.mono bel6.size)) | (go_at_call 15; refine (num_calls _ _).mono ?_; rintro e w' ⟨rfl, rfl⟩))
  all_goals
    go_wp2
    go_ret
    exact ⟨rfl, b5.drew.trans (bel67.mono b5.size)⟩
theorem BitsStuff_walk (a0 : Option Addr) (len0 cap0 : Nat) (z0 : List Int) (w : World)
    (h : (a0 = none ∧ len0 = 0 ∧ cap0 = 0 ∧ z0 = []) ∨ ∃ x, a0 = some x ∧ len0 ≤ cap0 ∧ cap0 ≤ maxLen ∧ z0.length = cap0 ∧ (∀ i, i < z0.length → w.cell? (x.add i) = some (.int .u8 (z0.getD i 0))) ∧ ∀ n ∈ z0, (Lit.int .u8 n).wf = true) :
    Calls Try.prog 4 #[.slice a0 len0 cap0] w fun e w' => e = .returned (.bool true) ∧ Below w.heap.size w w' := by
  obtain ⟨l, rfl, hc, hm, hr⟩ := Rd.of_row h
  by_cases hl : l.length ≤ 500
  · exact BitsStuff_near a0 cap0 l w hr hl
  · exact BitsStuff_far a0 l.length cap0 w (by omega) (by unfold maxLen at hm; omega)
end Go.Proofs.Ytkiofgbfalihoaa

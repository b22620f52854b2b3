/- The law BitsRows, walked. Condition: the slice reads as its bytes. -/
import Derived.Test.YtkiofgbfalihoaaBitBytes
import Derived.Test.YtkiofgbfalihoaaBitNum
import Derived.Deep.RegionHeld
namespace Go.Proofs.Ytkiofgbfalihoaa
open Go.RowKit
open Bit
set_option linter.unusedVariables false

theorem BitsRows_far (A : Option Addr) (n c : Nat) (w : World) (hl : 200 < n) (hm : n ≤ 9223372036854775807) :
    Calls Try.prog 3 #[.slice A n c] w fun e w' => e = .returned (.bool true) ∧ Below w.heap.size w w' := by
  go_enter Try.func3, Try.ntmps3
  go_wp2_with fail
  refine (alive_calls w).mono ?_
  rintro e w' ⟨rfl, hb⟩
  go_wp2
  go_ret
  exact ⟨rfl, hb⟩
set_option maxHeartbeats 2000000 in
theorem BitsRows_near (A : Option Addr) (c : Nat) (b : List UInt8) (w : World) (hr : Rd w A b) (hl : b.length ≤ 200) :
    Calls Try.prog 3 #[.slice A b.length c] w fun e w' => e = .returned (.bool true) ∧ Below w.heap.size w w' := by
  have hol := of_len b
  have hsl := (stuff_len (of b) 0 (by omega)).2
  have OC := Lib.hid (fun (A : Option Addr) (c : Nat) (w : World) (hr : Rd w A b) => of_calls A c b w hr (by omega))
  have RC := Lib.hid (fun (A : Option Addr) (c : Nat) (w : World) (hr : Rd w A b) => refBits_calls A c b w hr (by omega))
  have SC := Lib.hid (fun (A : Option Addr) (c : Nat) (w : World) (hr : Rd w A (of b)) => stuff_calls A c (of b) w hr (by omega))
  have TC := Lib.hid (fun (A : Option Addr) (c : Nat) (w : World) (hr : Rd w A (of b)) => refStuff_calls A c (of b) w hr (by omega))
  have UC : Hid (∀ (A : Option Addr) (c : Nat) (w : World), Rd w A (stuff 0 (of b)) → Calls Try.prog 11 #[.slice A (stuff 0 (of b)).length c] w fun e w' => ∃ A c, e = .returned (.tuple #[.slice A (of b).length c, .int .i64 0]) ∧ Rd w' A (of b) ∧ Below w.heap.size w w') := Lib.hid fun A c w hr => by
    have := unstuff_calls A c (stuff 0 (of b)) w hr (by omega)
    rw [un_stuff_all, of_one] at this
    exact this
  have PC : Hid (∀ (A : Option Addr) (c : Nat) (w : World), Rd w A (of b) → Calls Try.prog 12 #[.slice A (of b).length c] w fun e w' => ∃ A c, e = .returned (.tuple #[.slice A b.length c, .int .i64 0]) ∧ Rd w' A b ∧ Below w.heap.size w w') := Lib.hid fun A c w hr => by
    have := bytes_calls A c (of b) w hr (by omega)
    rw [pack_back] at this
    exact this
  clear hol hsl
  generalize of b = l at *
  generalize stuff 0 l = s at *
  go_enter Try.func3, Try.ntmps3
  go_wp2_with fail
  refine (alive_calls w).mono ?_
  rintro e W ⟨rfl, hb⟩
  obtain ⟨A1, c1, w1, run1, own1, bel1⟩ := run_app W W.heap.size none 0 [] (Own.nil _ _) A c b (hr.below hb) (by simp; omega) (Nat.le_refl _)
  rw [List.nil_append] at run1 own1
  have b1 := hb.trans (bel1.mono hb.size)
  have r1 := own1.rd
  clear own1 bel1
  go_wp2_with (at_builtin; refine Lib.wpList_append_run _ rfl _ _ _ _ rfl _ _ rfl rfl _ _ (run1 _) ?_)
  refine (OC.out A1 c1 w1 r1).mono ?_
  rintro e w2 ⟨A2, c2, rfl, own2, bel2⟩
  clear run1
  have r2 := own2.rd
  have b2 := b1.trans (bel2.mono b1.size)
  go_wp2_with fail
  refine (SC.out A2 c2 w2 r2).mono ?_
  rintro e w3 ⟨A3, c3, rfl, own3, bel3⟩
  have r3 := own3.rd
  have b3 := b2.trans (bel3.mono b2.size)
  clear own2 own3
  go_wp2_with fail
  refine (UC.out A3 c3 w3 r3).mono ?_
  rintro e w4 ⟨A4, c4, rfl, r4, bel4⟩
  have b4 := b3.trans (bel4.mono b3.size)
  go_wp2_with fail
  refine (PC.out A4 c4 w4 r4).mono ?_
  rintro e w5 ⟨A5, c5, rfl, r5, bel5⟩
  have b5 := b4.trans (bel5.mono b4.size)
  have r25 := ((r2.below bel3).below bel4).below bel5
  have sa := RC.out A c w5.drew ((hr.below b5).drew)
  have hk : ∀ w', Below w5.drew.heap.size w5.drew w' → ((convert 22 9 (.slice A2 l.length c2)).run Try.prog w' = .ok (.string ⟨l.toArray⟩) w' ∧ (convert 22 9 (.slice A3 s.length c3)).run Try.prog w' = .ok (.string ⟨s.toArray⟩) w' ∧ (convert 22 9 (.slice A5 b.length c5)).run Try.prog w' = .ok (.string ⟨b.toArray⟩) w' ∧ (convert 22 9 (.slice A b.length c)).run Try.prog w' = .ok (.string ⟨b.toArray⟩) w') := by
    intro w' hw
    exact ⟨run_conv w' A2 c2 l (r25.drew.below hw), run_conv w' A3 c3 s (((r3.below bel4).below bel5).drew.below hw), run_conv w' A5 c5 b (r5.drew.below hw), run_conv w' A c b ((hr.below b5).drew.below hw)⟩
  have HK := Lib.hid hk
  clear hk
  go_wp2_with fail
  go_region_held (fun w' => (convert 22 9 (.slice A2 l.length c2)).run Try.prog w' = .ok (.string ⟨l.toArray⟩) w' ∧ (convert 22 9 (.slice A3 s.length c3)).run Try.prog w' = .ok (.string ⟨s.toArray⟩) w' ∧ (convert 22 9 (.slice A5 b.length c5)).run Try.prog w' = .ok (.string ⟨b.toArray⟩) w' ∧ (convert 22 9 (.slice A b.length c)).run Try.prog w' = .ok (.string ⟨b.toArray⟩) w') (first | exact HK.out _ (Below.refl _ _) | exact HK.out _ (by assumption))
    (first | (go_at_call 13; refine sa.mono ?_; rintro e w6 ⟨A6, c6, rfl, own6, bel6⟩; have q6 := run_conv w6 A6 c6 _ own6.rd; unfold strV at q6; have sb6 := TC.out A2 c2 w6 (r25.drew.below bel6)) | (go_at_call 14; refine sb6.mono ?_; rintro e w7 ⟨A7, c7, rfl, own7, bel7⟩; have q7 := run_conv w7 A7 c7 _ own7.rd; have q8 := run_conv w7 A6 c6 _ (own6.rd.below bel7); unfold strV at q7 q8; have bel67 := bel6.trans (bel7.mono bel6.size)) | (go_at_call 15; refine (num_calls _ _).mono ?_; rintro e w' ⟨rfl, rfl⟩))
  all_goals
    go_wp2
    go_ret
    exact ⟨rfl, b5.drew.trans (bel67.mono b5.size)⟩
theorem BitsRows_walk (a0 : Option Addr) (len0 cap0 : Nat) (z0 : List Int) (w : World)
    (h : (a0 = none ∧ len0 = 0 ∧ cap0 = 0 ∧ z0 = []) ∨ ∃ x, a0 = some x ∧ len0 ≤ cap0 ∧ cap0 ≤ maxLen ∧ z0.length = cap0 ∧ (∀ i, i < z0.length → w.cell? (x.add i) = some (.int .u8 (z0.getD i 0))) ∧ ∀ n ∈ z0, (Lit.int .u8 n).wf = true) :
    Calls Try.prog 3 #[.slice a0 len0 cap0] w fun e w' => e = .returned (.bool true) ∧ Below w.heap.size w w' := by
  obtain ⟨l, rfl, hc, hm, hr⟩ := Rd.of_row h
  by_cases hl : l.length ≤ 200
  · exact BitsRows_near a0 cap0 l w hr hl
  · exact BitsRows_far a0 l.length cap0 w (by omega) (by unfold maxLen at hm; omega)
end Go.Proofs.Ytkiofgbfalihoaa

/- The law OctetsStuff, walked. Condition: the slice reads as its octets. -/
import Derived.Test.YtgmgbfelpefojaaOctAlive
import Derived.Deep.RegionHeld
namespace Go.Proofs.Ytgmgbfelpefojaa
open Go.RowKit
open Oct
set_option linter.unusedVariables false

theorem OctetsStuff_far (A : Option Addr) (n c : Nat) (w : World) (hl : 500 < n) (hm : n ≤ 9223372036854775807) :
    Calls Try.prog 3 #[.slice A n c] w fun e w' => e = .returned (.bool true) ∧ Below w.heap.size w w' := by
  go_enter Try.func3, Try.ntmps3
  go_wp2_with fail
  refine (alive_calls w).mono ?_
  rintro e w' ⟨rfl, hb⟩
  go_wp2
  go_ret
  exact ⟨rfl, hb⟩
set_option maxHeartbeats 2000000 in
theorem OctetsStuff_near (A : Option Addr) (c : Nat) (l : List UInt8) (w : World) (hr : Rd w A l) (hl : l.length ≤ 500) :
    Calls Try.prog 3 #[.slice A l.length c] w fun e w' => e = .returned (.bool true) ∧ Below w.heap.size w w' := by
  have hfree := Lib.hid (stuff_free l)
  have hback := Lib.hid (un_stuff [] l)
  have hlen := (stuff_len l).2
  have sc := fun (A : Option Addr) (c : Nat) (w : World) (hr : Rd w A l) => stuff_calls A c l w hr (by omega)
  have rc := fun (A : Option Addr) (c : Nat) (w : World) (hr : Rd w A l) => refStuff_calls A c l w hr (by omega)
  have SC := Lib.hid sc
  have RC := Lib.hid rc
  clear sc rc
  generalize stuff l = s at *
  go_enter Try.func3, Try.ntmps3
  go_wp2_with fail
  refine (alive_calls w).mono ?_
  rintro e W ⟨rfl, hb⟩
  obtain ⟨A1, c1, w1, run1, own1, bel1⟩ := run_app W W.heap.size none 0 [] (Own.nil _ _) A c l (hr.below hb) (by simp; omega) (Nat.le_refl _)
  rw [List.nil_append] at run1 own1
  have b1 := hb.trans (bel1.mono hb.size)
  have r1 := own1.rd
  clear own1 bel1
  go_wp2_with (at_builtin; refine Lib.wpList_append_run _ rfl _ _ _ _ rfl _ _ rfl rfl _ _ (run1 _) ?_)
  refine (SC.out A1 c1 w1 r1).mono ?_
  rintro e w2 ⟨A2, c2, rfl, r2, bel2⟩
  clear run1
  have b2 := b1.trans (bel2.mono b1.size)
  go_wp2_with fail
  go_loop [5] (fun i => ∃ k : Nat, k ≤ s.length ∧ i = .int .i64 k) (fun i => s.length - (intOf i).toNat)
  case atStart => exact ⟨0, Nat.zero_le _, rfl⟩
  case round =>
    obtain ⟨k, hk, rfl⟩ := hrel
    by_cases hlt : k < s.length
    · obtain ⟨b, off, rfl, _, hc⟩ := r2.at_ hlt
      have hg : s.getD k 0 = s[k] := by simp [hlt]
      have hn := no_flag (hfree.out s[k] (List.getElem_mem hlt))
      rw [hg] at hc
      clear hg
      unfold bv at hc
      generalize s[k] = x at hc hn
      go_wp2
      go_round
      case rel => exact ⟨k + 1, by omega, by go_num⟩
      case measure => simp [intOf]; omega
    · have hu : Calls Try.prog 10 #[.slice A2 s.length c2] w2 fun e w' => ∃ A c, e = .returned (.tuple #[.slice A l.length c, .int .i64 0]) ∧ Rd w' A l ∧ Below w2.heap.size w2 w' := by
        have := unstuff_calls A2 c2 s w2 r2 (by omega)
        rw [hback.out, List.nil_append] at this
        exact this
      go_wp2_with fail
      refine hu.mono ?_
      rintro e w3 ⟨A3, c3, rfl, r3, bel3⟩
      clear hu
      have b3 := b2.trans (bel3.mono b2.size)
      have s5 := RC.out A c w3.drew ((hr.below b3).drew)
      have hk : ∀ w', Below w3.drew.heap.size w3.drew w' → ((convert 22 9 (.slice A2 s.length c2)).run Try.prog w' = .ok (.string ⟨s.toArray⟩) w' ∧ (convert 22 9 (.slice A3 l.length c3)).run Try.prog w' = .ok (.string ⟨l.toArray⟩) w' ∧ (convert 22 9 (.slice A l.length c)).run Try.prog w' = .ok (.string ⟨l.toArray⟩) w') := by
        intro w' hw
        exact ⟨run_conv w' A2 c2 s (((r2.below bel3).drew).below hw), run_conv w' A3 c3 l ((r3.drew).below hw), run_conv w' A c l (((hr.below b3).drew).below hw)⟩
      have HK := Lib.hid hk
      clear hk
      go_wp2_with fail
      go_region_held (fun w' => (convert 22 9 (.slice A2 s.length c2)).run Try.prog w' = .ok (.string ⟨s.toArray⟩) w' ∧ (convert 22 9 (.slice A3 l.length c3)).run Try.prog w' = .ok (.string ⟨l.toArray⟩) w' ∧ (convert 22 9 (.slice A l.length c)).run Try.prog w' = .ok (.string ⟨l.toArray⟩) w') (first | exact HK.out _ (Below.refl _ _) | exact HK.out _ (by assumption))
        (first | (go_at_call 11; refine s5.mono ?_; rintro e w5 ⟨A5, c5, rfl, r5, bel5⟩; have q5 := run_conv w5 A5 c5 _ r5; unfold strV at q5) | (go_at_call 12; refine (num_calls _ _).mono ?_; rintro e w' ⟨rfl, rfl⟩))
      go_wp2
      go_ret
      exact ⟨rfl, b3.drew.trans (bel5.mono b3.size)⟩
theorem OctetsStuff_walk (a0 : Option Addr) (len0 cap0 : Nat) (z0 : List Int) (w : World)
    (h : (a0 = none ∧ len0 = 0 ∧ cap0 = 0 ∧ z0 = []) ∨ ∃ x, a0 = some x ∧ len0 ≤ cap0 ∧ cap0 ≤ maxLen ∧ z0.length = cap0 ∧ (∀ i, i < z0.length → w.cell? (x.add i) = some (.int .u8 (z0.getD i 0))) ∧ ∀ n ∈ z0, (Lit.int .u8 n).wf = true) :
    Calls Try.prog 3 #[.slice a0 len0 cap0] w fun e w' => e = .returned (.bool true) ∧ Below w.heap.size w w' := by
  obtain ⟨l, rfl, hc, hm, hr⟩ := Rd.of_row h
  by_cases hl : l.length ≤ 500
  · exact OctetsStuff_near a0 cap0 l w hr hl
  · exact OctetsStuff_far a0 l.length cap0 w (by omega) (by unfold maxLen at hm; omega)
end Go.Proofs.Ytgmgbfelpefojaa

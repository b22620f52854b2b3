/- The law FcsSums, walked. Condition: the slice reads as its bytes. -/
import Derived.Test.YtjgpnhpecoijeaaFcsChecksWalk
namespace Go.Proofs.Ytjgpnhpecoijeaa
open Go.RowKit
open Fcs
set_option linter.unusedVariables false

theorem chk_sum (wide : Bool) (l : List UInt8) : chkE wide (l ++ sumB wide l) = 0 ∧ chkB wide (l ++ sumB wide l) = l := by
  have hn : (l ++ sumB wide l).length - sumN wide = l.length := by rw [List.length_append, sumB_len]; omega
  have h1 : ¬ (l ++ sumB wide l).length < sumN wide := by rw [List.length_append, sumB_len]; omega
  have h0 : chkE wide (l ++ sumB wide l) = 0 := by
    rw [chkE, if_neg h1, hn, List.drop_left, List.take_left, if_pos rfl]
  exact ⟨h0, by rw [chkB, if_pos h0, hn, List.take_left]⟩

theorem FcsSums_far (A : Option Addr) (n c : Nat) (wide : Bool) (w : World) (hl : 500 < n) (hm : n ≤ 9223372036854775807) :
    Calls Try.prog 3 #[.slice A n c, .bool wide] w fun e w' => e = .returned (.bool true) ∧ Below w.heap.size w w' := by
  have hb := aliveW_below w
  go_enter Try.func3, Try.ntmps3
  go_wp2_with fail
  refine (alive_calls w).mono ?_
  rintro e w' ⟨rfl, rfl⟩
  go_wp2
  go_ret
  exact ⟨rfl, hb⟩
set_option maxHeartbeats 2000000 in
theorem FcsSums_near (A : Option Addr) (c : Nat) (l : List UInt8) (wide : Bool) (w : World) (hr : Rd w A l) (hl : l.length ≤ 500) :
    Calls Try.prog 3 #[.slice A l.length c, .bool wide] w fun e w' => e = .returned (.bool true) ∧ Below w.heap.size w w' := by
  have hb := aliveW_below w
  obtain ⟨W, hW⟩ : ∃ W, W = laidM (laidM w dg) dg := ⟨_, rfl⟩
  rw [← hW] at hb
  have ha := alive_calls w
  rw [← hW] at ha
  clear hW
  obtain ⟨A1, c1, w1, run1, own1, bel1⟩ := run_app W W.heap.size none 0 [] (Own.nil _ _) A c l (hr.below hb) (by simp; omega) (Nat.le_refl _)
  rw [List.nil_append] at run1 own1
  have b1 := hb.trans (bel1.mono hb.size)
  have r1 := own1.rd
  clear own1 bel1
  have n1 : (l ++ sumB wide l).length ≤ 1000 := by rw [List.length_append, sumB_len]; cases wide <;> simp [sumN] <;> omega
  have hm : l.length ≤ maxLen := by unfold maxLen; omega
  obtain ⟨hE, hB⟩ := chk_sum wide l
  go_enter Try.func3, Try.ntmps3
  go_wp2_with fail
  refine ha.mono ?_
  rintro e w' ⟨rfl, rfl⟩
  clear ha
  go_wp2_with (at_builtin; refine Lib.wpList_append_run _ rfl _ _ _ _ rfl _ _ rfl rfl _ _ (run1 _) ?_)
  refine (put_calls wide A1 c1 l w1 r1 (by omega)).mono ?_
  rintro e w2 ⟨A2, c2, rfl, own2, bel2⟩
  clear run1
  have b2 := b1.trans (bel2.mono b1.size)
  have r2 := own2.rd
  have cap2 := own2.cap
  have ck := check_calls wide A2 c2 (l ++ sumB wide l) w2 r2 n1 cap2.1 cap2.2
  rw [List.length_append] at ck
  go_wp2_with fail
  refine ck.mono ?_
  rintro e w3 ⟨A3, c3, rfl, r3, bel3⟩
  clear ck
  rw [hE, hB]
  rw [hB] at r3
  have b3 := b2.trans (bel3.mono b2.size)
  have s1 := short_calls A c l w3.drew ((hr.below b3).drew) hm
  have s2 := refShort_calls A c l w3.drew ((hr.below b3).drew) hm
  have s3 := long_calls A c l w3.drew ((hr.below b3).drew) hm
  have s4 := refLong_calls A c l w3.drew ((hr.below b3).drew) hm
  have s5 := refSum_calls wide A c l w3.drew ((hr.below b3).drew) (by omega)
  have hk : ∀ w', Below w3.drew.heap.size w3.drew w' → ((convert 22 9 (.slice A2 (l.length + (sumB wide l).length) c2)).run Try.prog w' = .ok (.string ⟨(l ++ sumB wide l).toArray⟩) w' ∧ (convert 22 9 (.slice A3 l.length c3)).run Try.prog w' = .ok (.string ⟨l.toArray⟩) w' ∧ (convert 22 9 (.slice A l.length c)).run Try.prog w' = .ok (.string ⟨l.toArray⟩) w') := by
    intro w' hw
    have q1 := run_conv w' A2 c2 (l ++ sumB wide l) (((r2.below bel3).drew).below hw)
    rw [List.length_append] at q1
    exact ⟨q1, run_conv w' A3 c3 l ((r3.drew).below hw), run_conv w' A c l (((hr.below b3).drew).below hw)⟩
  have HK := Lib.hid hk
  clear hk
  clear hE hB
  go_wp2_with fail
  go_region_held (fun w' => (convert 22 9 (.slice A2 (l.length + (sumB wide l).length) c2)).run Try.prog w' = .ok (.string ⟨(l ++ sumB wide l).toArray⟩) w' ∧ (convert 22 9 (.slice A3 l.length c3)).run Try.prog w' = .ok (.string ⟨l.toArray⟩) w' ∧ (convert 22 9 (.slice A l.length c)).run Try.prog w' = .ok (.string ⟨l.toArray⟩) w') (first | exact HK.out _ (Below.refl _ _) | exact HK.out _ (by assumption))
    (first | (go_at_call 12; refine s1.mono ?_; rintro e w' ⟨rfl, rfl⟩; unfold b16) | (go_at_call 13; refine s2.mono ?_; rintro e w' ⟨rfl, rfl⟩; unfold b16) | (go_at_call 14; refine s3.mono ?_; rintro e w' ⟨rfl, rfl⟩; unfold b32) | (go_at_call 15; refine s4.mono ?_; rintro e w' ⟨rfl, rfl⟩; unfold b32) | (go_at_call 16; refine s5.mono ?_; rintro e w5 ⟨A5, c5, rfl, own5, bel5⟩; have q5 := run_conv w5 A5 c5 _ own5.rd; unfold strV at q5; rw [List.length_append] at q5) | (go_at_call 17; refine (num_calls _ _).mono ?_; rintro e w' ⟨rfl, rfl⟩))
  go_wp2
  go_ret
  exact ⟨rfl, b3.drew.trans (bel5.mono b3.size)⟩
theorem FcsSums_walk (a0 : Option Addr) (len0 cap0 : Nat) (z0 : List Int) (a1 : Bool) (w : World)
    (h : (a0 = none ∧ len0 = 0 ∧ cap0 = 0 ∧ z0 = []) ∨ ∃ x, a0 = some x ∧ len0 ≤ cap0 ∧ cap0 ≤ maxLen ∧ z0.length = cap0 ∧ (∀ i, i < z0.length → w.cell? (x.add i) = some (.int .u8 (z0.getD i 0))) ∧ ∀ n ∈ z0, (Lit.int .u8 n).wf = true) :
    Calls Try.prog 3 #[.slice a0 len0 cap0, .bool a1] w fun e w' => e = .returned (.bool true) ∧ Below w.heap.size w w' := by
  obtain ⟨l, rfl, hc, hm, hr⟩ := Rd.of_row h
  by_cases hl : l.length ≤ 500
  · exact FcsSums_near a0 cap0 l a1 w hr hl
  · exact FcsSums_far a0 l.length cap0 a1 w (by omega) (by unfold maxLen at hm; omega)
end Go.Proofs.Ytjgpnhpecoijeaa

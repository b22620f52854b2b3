/- The law OctetsParts, walked. Condition: the slices read as their octets. -/
import Derived.Test.YtgmgbfelpefojaaOctAlive
import Derived.Deep.RegionHeld
namespace Go.Proofs.Ytgmgbfelpefojaa
open Go.RowKit
open Oct
set_option linter.unusedVariables false

theorem OctetsParts_far1 (A B : Option Addr) (n c m d : Nat) (w : World) (hl : 300 < n) (hm : n ≤ 9223372036854775807) :
    Calls Try.prog 5 #[.slice A n c, .slice B m d] w fun e w' => e = .returned (.bool true) ∧ Below w.heap.size w w' := by
  go_enter Try.func5, Try.ntmps5
  go_wp2_with fail
  refine (alive_calls w).mono ?_
  rintro e w' ⟨rfl, hb⟩
  go_wp2
  go_ret
  exact ⟨rfl, hb⟩
theorem OctetsParts_far2 (A B : Option Addr) (n c m d : Nat) (w : World) (hn : n ≤ 300) (hl : 300 < m) (hm : m ≤ 9223372036854775807) :
    Calls Try.prog 5 #[.slice A n c, .slice B m d] w fun e w' => e = .returned (.bool true) ∧ Below w.heap.size w w' := by
  go_enter Try.func5, Try.ntmps5
  go_wp2_with fail
  refine (alive_calls w).mono ?_
  rintro e w' ⟨rfl, hb⟩
  go_wp2
  go_ret
  exact ⟨rfl, hb⟩
set_option maxHeartbeats 4000000 in
theorem OctetsParts_near (A B : Option Addr) (c d : Nat) (a b : List UInt8) (w : World) (hra : Rd w A a) (hrb : Rd w B b) (hla : a.length ≤ 300) (hlb : b.length ≤ 300) :
    Calls Try.prog 5 #[.slice A a.length c, .slice B b.length d] w fun e w' => e = .returned (.bool true) ∧ Below w.heap.size w w' := by
  have hcat0 := stuff_append a b
  have hlen := stuff_len (a ++ b)
  rw [List.length_append] at hlen
  have sa := fun (w : World) (hr : Rd w A a) => stuff_calls A c a w hr (by omega)
  have sb := fun (w : World) (hr : Rd w B b) => stuff_calls B d b w hr (by omega)
  have sc := fun (A : Option Addr) (c : Nat) (w : World) (hr : Rd w A (a ++ b)) => stuff_calls A c (a ++ b) w hr (by simp; omega)
  have hla2 := (stuff_len a).2
  have hlb2 := (stuff_len b).2
  generalize stuff a = ta at *
  generalize stuff b = tb at *
  generalize stuff (a ++ b) = st at *
  have hcat : (st == (({ data := ta.toArray } ++ { data := tb.toArray } : ByteArray)).toList) = true := by
    rw [hcat0, ByteArray.toList_eq]
    simp
  have hcm : ¬ 9223372036854775807 < ta.length + tb.length := by omega
  have SA := Lib.hid sa
  have SB := Lib.hid sb
  have SC := Lib.hid sc
  clear sa sb sc hcat0
  go_enter Try.func5, Try.ntmps5
  go_wp2_with fail
  refine (alive_calls w).mono ?_
  rintro e W ⟨rfl, hb⟩
  obtain ⟨A1, c1, w1, run1, own1, bel1⟩ := run_app W W.heap.size none 0 [] (Own.nil _ _) A c a (hra.below hb) (by simp; omega) (Nat.le_refl _)
  rw [List.nil_append] at run1 own1
  have b1 := hb.trans (bel1.mono hb.size)
  obtain ⟨A2, c2, w2, run2, own2, bel2⟩ := run_app w1 W.heap.size A1 c1 a own1 B d b (hrb.below b1) (by omega) bel1.size
  have b2 := hb.trans ((bel1.trans bel2).mono hb.size)
  have r2 := own2.rd
  have sc := SC.out A2 c2 w2 r2
  clear own1 own2 bel1 bel2
  generalize hab : (a ++ b).length = nab at run2 sc
  clear hab
  go_wp2_with (first | (at_builtin; refine Lib.wpList_append_run (o := ⟨some 22, _, _, _, _, _⟩) _ rfl _ _ _ _ rfl _ _ rfl rfl _ _ (run1 _) ?_) | (at_builtin; refine Lib.wpList_append_run (o := ⟨some 24, _, _, _, _, _⟩) _ rfl _ _ _ _ rfl _ _ rfl rfl _ _ (run2 _) ?_))
  refine sc.mono ?_
  rintro e w3 ⟨A3, c3, rfl, r3, bel3⟩
  clear run1 run2 sc
  have b3 := b2.trans (bel3.mono b2.size)
  have sa := SA.out w3.drew ((hra.below b3).drew)
  have hk : ∀ w', Below w3.drew.heap.size w3.drew w' → (convert 22 9 (.slice A3 st.length c3)).run Try.prog w' = .ok (.string ⟨st.toArray⟩) w' := by
    intro w' hw
    exact run_conv w' A3 c3 st ((r3.drew).below hw)
  have HK := Lib.hid hk
  clear hk
  have i1 : ((a.length : Int) + (b.length : Int)) ≤ (st.length : Int) := by omega
  have i2 : (st.length : Int) ≤ 2 * ((a.length : Int) + (b.length : Int)) := by omega
  have i3 : IntKind.i64.wrap ((a.length : Int) + (b.length : Int)) = (a.length : Int) + (b.length : Int) := IntWalk.i64_in _ (by omega)
  have i4 : IntKind.i64.wrap (2 * ((a.length : Int) + (b.length : Int))) = 2 * ((a.length : Int) + (b.length : Int)) := IntWalk.i64_in _ (by omega)
  go_wp2_with fail
  go_region_held (fun w' => (convert 22 9 (.slice A3 st.length c3)).run Try.prog w' = .ok (.string ⟨st.toArray⟩) w') (first | exact HK.out _ (Below.refl _ _) | exact HK.out _ (by assumption))
    (first | (go_at_call 9; (with_reducible refine sa.mono ?_); rintro e w5 ⟨A5, c5, rfl, r5, bel5⟩; have q5 := run_conv w5 A5 c5 _ r5; unfold strV at q5; have sb5 := SB.out w5 (((hrb.below b3).drew).below bel5)) | (go_at_call 9; (with_reducible refine sb5.mono ?_); rintro e w6 ⟨A6, c6, rfl, r6, bel6⟩; have q6 := run_conv w6 A6 c6 _ r6; have q7 := run_conv w6 A5 c5 _ (r5.below bel6); unfold strV at q6 q7; have bel56 := bel5.trans (bel6.mono bel5.size)))
  all_goals
    go_wp2
    go_ret
    exact ⟨rfl, b3.drew.trans (bel56.mono b3.size)⟩
theorem OctetsParts_walk (a0 : Option Addr) (len0 cap0 : Nat) (z0 : List Int) (a1 : Option Addr) (len1 cap1 : Nat) (z1 : List Int) (w : World)
    (h0 : (a0 = none ∧ len0 = 0 ∧ cap0 = 0 ∧ z0 = []) ∨ ∃ x, a0 = some x ∧ len0 ≤ cap0 ∧ cap0 ≤ maxLen ∧ z0.length = cap0 ∧ (∀ i, i < z0.length → w.cell? (x.add i) = some (.int .u8 (z0.getD i 0))) ∧ ∀ n ∈ z0, (Lit.int .u8 n).wf = true)
    (h1 : (a1 = none ∧ len1 = 0 ∧ cap1 = 0 ∧ z1 = []) ∨ ∃ x, a1 = some x ∧ len1 ≤ cap1 ∧ cap1 ≤ maxLen ∧ z1.length = cap1 ∧ (∀ i, i < z1.length → w.cell? (x.add i) = some (.int .u8 (z1.getD i 0))) ∧ ∀ n ∈ z1, (Lit.int .u8 n).wf = true) :
    Calls Try.prog 5 #[.slice a0 len0 cap0, .slice a1 len1 cap1] w fun e w' => e = .returned (.bool true) ∧ Below w.heap.size w w' := by
  obtain ⟨l0, rfl, hc0, hm0, hr0⟩ := Rd.of_row h0
  obtain ⟨l1, rfl, hc1, hm1, hr1⟩ := Rd.of_row h1
  by_cases hl0 : l0.length ≤ 300
  · by_cases hl1 : l1.length ≤ 300
    · exact OctetsParts_near a0 a1 cap0 cap1 l0 l1 w hr0 hr1 hl0 hl1
    · exact OctetsParts_far2 a0 a1 l0.length cap0 l1.length cap1 w hl0 (by omega) (by unfold maxLen at hm1; omega)
  · exact OctetsParts_far1 a0 a1 l0.length cap0 l1.length cap1 w (by omega) (by unfold maxLen at hm0; omega)
end Go.Proofs.Ytgmgbfelpefojaa

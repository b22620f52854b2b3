/- The law BitsAborts, walked. Condition: each slice reads as its bits. -/
import Derived.Test.YtkiofgbfalihoaaBitNum
namespace Go.Proofs.Ytkiofgbfalihoaa
open Go.RowKit
open Bit
set_option linter.unusedVariables false

theorem BitsAborts_far1 (A B : Option Addr) (n c m d : Nat) (w : World) (hl : 100 < n) (hm : n ≤ 9223372036854775807) :
    Calls Try.prog 6 #[.slice A n c, .slice B m d] w fun e w' => e = .returned (.bool true) ∧ Below w.heap.size w w' := by
  go_enter Try.func6, Try.ntmps6
  go_wp2_with fail
  refine (alive_calls w).mono ?_
  rintro e w' ⟨rfl, hb⟩
  go_wp2
  go_ret
  exact ⟨rfl, hb⟩
theorem BitsAborts_far2 (A B : Option Addr) (n c m d : Nat) (w : World) (hn : n ≤ 100) (hl : 100 < m) (hm : m ≤ 9223372036854775807) :
    Calls Try.prog 6 #[.slice A n c, .slice B m d] w fun e w' => e = .returned (.bool true) ∧ Below w.heap.size w w' := by
  go_enter Try.func6, Try.ntmps6
  go_wp2_with fail
  refine (alive_calls w).mono ?_
  rintro e w' ⟨rfl, hb⟩
  go_wp2
  go_ret
  exact ⟨rfl, hb⟩
set_option maxHeartbeats 2000000 in
theorem BitsAborts_near (A B : Option Addr) (c d : Nat) (a b : List UInt8) (w : World) (hra : Rd w A a) (hrb : Rd w B b) (hla : a.length ≤ 100) (hlb : b.length ≤ 100) :
    Calls Try.prog 6 #[.slice A a.length c, .slice B b.length d] w fun e w' => e = .returned (.bool true) ∧ Below w.heap.size w w' := by
  have hlen := stuff_len a 0 (by omega)
  have hun := un_aborts a b
  have SC := Lib.hid (fun (w : World) (hr : Rd w A a) => refStuff_calls A c a w hr (by omega))
  generalize stuff 0 a = s at *
  go_enter Try.func6, Try.ntmps6
  go_wp2_with fail
  refine (alive_calls w).mono ?_
  rintro e W ⟨rfl, hb⟩
  go_wp2_with fail
  refine (SC.out W (hra.below hb)).mono ?_
  rintro e w1 ⟨A1, c1, rfl, own1, bel1⟩
  obtain ⟨A2, c2, w2, run2, own2, bel2⟩ := app_new w1 W.heap.size A1 c1 s [0, 1, 1, 1, 1, 1, 1, 1] own1 bel1.size (by simp; omega)
  have b12 := bel1.trans bel2
  have bw2 := hb.trans (b12.mono hb.size)
  have hl2 : (s ++ [0, 1, 1, 1, 1, 1, 1, 1]).length ≤ s.length + 8 := by simp
  generalize s ++ [0, 1, 1, 1, 1, 1, 1, 1] = s2 at run2 own2 hun hl2
  obtain ⟨A3, c3, w3, run3, own3, bel3⟩ := run_app w2 W.heap.size A2 c2 s2 own2 B d b (hrb.below bw2) (by omega) b12.size
  have bw3 := hb.trans ((b12.trans bel3).mono hb.size)
  have r3 := own3.rd
  have hl3 : (s2 ++ b).length ≤ s2.length + b.length := by simp
  have HU := unstuff_calls A3 c3 (s2 ++ b) w3 r3 (by omega)
  rw [hun] at HU
  have HU2 := Lib.hid HU
  clear HU hun own1 own2 own3 r3
  generalize s2 ++ b = s3 at run3 HU2 hl3
  have run2' : ∀ ty, (Builtin.append_ #[22, 22] ty #[.slice A1 s.length c1, .slice (some ⟨w1.heap.size, 0, none⟩) 8 8]).run Try.prog (w1.alloc (.cells #[.int .u8 0, .int .u8 1, .int .u8 1, .int .u8 1, .int .u8 1, .int .u8 1, .int .u8 1, .int .u8 1] 5)) = .ok (.slice A2 s2.length c2) w2 := run2
  clear run2
  go_wp2_with (first | (at_builtin; refine Lib.wpList_append_run (o := ⟨some 26, _, _, _, _, _⟩) _ rfl _ _ _ _ rfl _ _ rfl rfl _ _ (run2' _) ?_) | (at_builtin; refine Lib.wpList_append_run (o := ⟨some 30, _, _, _, _, _⟩) _ rfl _ _ _ _ rfl _ _ rfl rfl _ _ (run3 _) ?_))
  refine HU2.out.mono ?_
  rintro e w4 ⟨A4, c4, rfl, _, bel4⟩
  have bw4 := bw3.trans (bel4.mono bw3.size)
  go_wp2_with (go_at_call 15; refine (num_calls _ _).mono ?_; rintro e w' ⟨rfl, rfl⟩)
  go_ret
  exact ⟨rfl, bw4⟩
theorem BitsAborts_walk (a0 : Option Addr) (len0 cap0 : Nat) (z0 : List Int) (a1 : Option Addr) (len1 cap1 : Nat) (z1 : List Int) (w : World)
    (h0 : (a0 = none ∧ len0 = 0 ∧ cap0 = 0 ∧ z0 = []) ∨ ∃ x, a0 = some x ∧ len0 ≤ cap0 ∧ cap0 ≤ maxLen ∧ z0.length = cap0 ∧ (∀ i, i < z0.length → w.cell? (x.add i) = some (.int .u8 (z0.getD i 0))) ∧ ∀ n ∈ z0, (Lit.int .u8 n).wf = true)
    (h1 : (a1 = none ∧ len1 = 0 ∧ cap1 = 0 ∧ z1 = []) ∨ ∃ x, a1 = some x ∧ len1 ≤ cap1 ∧ cap1 ≤ maxLen ∧ z1.length = cap1 ∧ (∀ i, i < z1.length → w.cell? (x.add i) = some (.int .u8 (z1.getD i 0))) ∧ ∀ n ∈ z1, (Lit.int .u8 n).wf = true) :
    Calls Try.prog 6 #[.slice a0 len0 cap0, .slice a1 len1 cap1] w fun e w' => e = .returned (.bool true) ∧ Below w.heap.size w w' := by
  obtain ⟨l0, rfl, hc0, hm0, hr0⟩ := Rd.of_row h0
  obtain ⟨l1, rfl, hc1, hm1, hr1⟩ := Rd.of_row h1
  by_cases hl0 : l0.length ≤ 100
  · by_cases hl1 : l1.length ≤ 100
    · exact BitsAborts_near a0 a1 cap0 cap1 l0 l1 w hr0 hr1 hl0 hl1
    · exact BitsAborts_far2 a0 a1 l0.length cap0 l1.length cap1 w hl0 (by omega) (by unfold maxLen at hm1; omega)
  · exact BitsAborts_far1 a0 a1 l0.length cap0 l1.length cap1 w (by omega) (by unfold maxLen at hm0; omega)
end Go.Proofs.Ytkiofgbfalihoaa

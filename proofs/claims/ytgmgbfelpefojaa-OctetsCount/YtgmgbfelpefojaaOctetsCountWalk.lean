/- The law OctetsCount, walked. Condition: the slice reads as its octets. -/
import Derived.Test.YtgmgbfelpefojaaOctAlive
namespace Go.Proofs.Ytgmgbfelpefojaa
open Go.RowKit
open Oct
set_option linter.unusedVariables false

theorem OctetsCount_far (A : Option Addr) (n c : Nat) (w : World) (hl : 500 < n) (hm : n ≤ 9223372036854775807) :
    Calls Try.prog 6 #[.slice A n c] w fun e w' => e = .returned (.bool true) ∧ Below w.heap.size w w' := by
  go_enter Try.func6, Try.ntmps6
  go_wp2_with fail
  refine (alive_calls w).mono ?_
  rintro e w' ⟨rfl, hb⟩
  go_wp2
  go_ret
  exact ⟨rfl, hb⟩
/-- k of the octets looked at -/
def CRel (l : List UInt8) (v i : Value) : Prop := ∃ k : Nat, k ≤ l.length ∧ i = .int .i64 k ∧ v = .int .i64 ((l.length + cnt (l.take k) : Nat) : Int)
theorem OctetsCount_near (A : Option Addr) (c : Nat) (l : List UInt8) (w : World) (hr : Rd w A l) (hl : l.length ≤ 500) :
    Calls Try.prog 6 #[.slice A l.length c] w fun e w' => e = .returned (.bool true) ∧ Below w.heap.size w w' := by
  go_enter Try.func6, Try.ntmps6
  go_wp2_with fail
  refine (alive_calls w).mono ?_
  rintro e W ⟨rfl, hb⟩
  have hr := hr.below hb
  go_wp2
  go_loop [4, 5] (CRel l) (fun _ i => l.length - (intOf i).toNat)
  case atStart => exact ⟨0, Nat.zero_le _, rfl, rfl⟩
  case round =>
    obtain ⟨k, hk, rfl, rfl⟩ := hrel
    have hcl := cnt_le (l.take k)
    rw [List.length_take, Nat.min_eq_left hk] at hcl
    by_cases hlt : k < l.length
    · obtain ⟨b, off, rfl, hb1, hc⟩ := hr.at_ hlt
      have hg : l.getD k 0 = l[k] := by simp [hlt]
      rw [hg] at hc
      clear hg
      unfold bv at hc
      have hs := Lib.hid (cnt_snoc l k hlt)
      generalize l[k] = x at hc hs
      generalize cnt (l.take k) = q at hs hcl
      by_cases h1 : x = 126
      · have h2 := is_flag h1
        have hs2 : Hid (cnt (l.take (k + 1)) = q + 1) := by have := hs.out; rw [if_pos (.inl h1)] at this; exact this
        clear h1 hs
        go_wp2
        go_round
        case rel => exact ⟨k + 1, by omega, by go_num, val_int (by rw [hs2.out]; omega)⟩
        case measure => simp [intOf]; omega
      · have h2 := no_flag h1
        by_cases h3 : x = 125
        · have h4 := is_esc h3
          have hs2 : Hid (cnt (l.take (k + 1)) = q + 1) := by have := hs.out; rw [if_pos (.inr h3)] at this; exact this
          clear h1 h3 hs
          go_wp2
          go_round
          case rel => exact ⟨k + 1, by omega, by go_num, val_int (by rw [hs2.out]; omega)⟩
          case measure => simp [intOf]; omega
        · have h4 := no_esc h3
          have hs2 : Hid (cnt (l.take (k + 1)) = q) := by have := hs.out; rw [if_neg (fun h => h.elim h1 h3)] at this; exact this
          clear h1 h3 hs
          go_wp2
          go_round
          case rel => exact ⟨k + 1, by omega, by go_num, val_int (by rw [hs2.out])⟩
          case measure => simp [intOf]; omega
    · have hst := stuff_calls A c l W hr (by omega)
      have hq : (((stuff l).length : Int) == ((l.length + cnt (l.take k) : Nat) : Int)) = true := by
        rw [stuff_count, List.take_of_length_le (by omega)]; simp
      have hq' : ((stuff l).length == l.length + cnt (l.take k)) = true := by
        rw [stuff_count, List.take_of_length_le (by omega)]; simp
      have hq2 : (((stuff l).length : Int) == (l.length : Int) + (cnt (l.take k) : Int)) = true := by
        rw [stuff_count, List.take_of_length_le (by omega)]; simp
      generalize cnt (l.take k) = q at hq hq' hq2 hcl
      go_wp2_with fail
      refine hst.mono ?_
      rintro e w2 ⟨B, d, rfl, hB, hb2⟩
      clear hst
      go_wp2
      go_ret
      exact ⟨rfl, hb.trans (hb2.mono hb.size)⟩
theorem OctetsCount_walk (a0 : Option Addr) (len0 cap0 : Nat) (z0 : List Int) (w : World)
    (h : (a0 = none ∧ len0 = 0 ∧ cap0 = 0 ∧ z0 = []) ∨ ∃ x, a0 = some x ∧ len0 ≤ cap0 ∧ cap0 ≤ maxLen ∧ z0.length = cap0 ∧ (∀ i, i < z0.length → w.cell? (x.add i) = some (.int .u8 (z0.getD i 0))) ∧ ∀ n ∈ z0, (Lit.int .u8 n).wf = true) :
    Calls Try.prog 6 #[.slice a0 len0 cap0] w fun e w' => e = .returned (.bool true) ∧ Below w.heap.size w w' := by
  obtain ⟨l, rfl, hc, hm, hr⟩ := Rd.of_row h
  by_cases hl : l.length ≤ 500
  · exact OctetsCount_near a0 cap0 l w hr hl
  · exact OctetsCount_far a0 l.length cap0 w (by omega) (by unfold maxLen at hm; omega)
end Go.Proofs.Ytgmgbfelpefojaa

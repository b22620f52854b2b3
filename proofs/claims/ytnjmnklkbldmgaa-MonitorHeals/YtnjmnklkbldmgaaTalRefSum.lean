/- Bad and Sum of a window of the reference. Condition: it keeps at most 1000 events. -/
import Derived.Test.YtnjmnklkbldmgaaTalRef
namespace Go.Proofs.Ytnjmnklkbldmgaa
open Go.RowKit
set_option linter.unusedVariables false

/-- k of the events looked at -/
def BRel (l : List Bool) (v i : Value) : Prop := ∃ k : Nat, k ≤ l.length ∧ i = .int .i64 k ∧ v = .int .i64 (bl (l.take k))
theorem bad_calls {w : World} {base b n : Nat} {l : List Bool} (h : RW w base b n l) (hn : n ≤ 1000) : Calls Try.prog 28 #[.pointer (some ⟨b, 0, none⟩)] w fun e w' => e = .returned (.int .i64 (bl l)) ∧ w' = w := by
  obtain ⟨A, c, h1, h2, h3, h4, h5, h6⟩ := h
  obtain ⟨_, c1⟩ := vcell h1
  clear h1 h3 h5 h6
  go_enter Try.func28, Try.ntmps28
  go_wp2
  go_loop [3, 4] (BRel l) (fun _ i => l.length - (intOf i).toNat)
  case atStart => exact ⟨0, Nat.zero_le _, rfl, rfl⟩
  case round =>
    obtain ⟨k, hk, rfl, rfl⟩ := hrel
    have hbl := bl_range (l.take k)
    rw [List.length_take, Nat.min_eq_left hk] at hbl
    by_cases hlt : k < l.length
    · obtain ⟨g, off, rfl, hg, hc⟩ := h2.at_ hlt
      have hs := bl_take hlt
      generalize bl (l.take k) = v at hs hbl
      generalize l.getD k false = x at hc hs
      have hs := Lib.hid hs
      cases x
      · go_wp2
        go_round
        case rel => exact ⟨k + 1, by omega, by go_num, val_int (by rw [hs.out]; rfl)⟩
        case measure => simp [intOf]; omega
      · go_wp2
        go_round
        case rel => exact ⟨k + 1, by omega, by go_num, val_int (by rw [hs.out]; simp)⟩
        case measure => simp [intOf]; omega
    · have hk' : l.take k = l := List.take_of_length_le (by omega)
      rw [hk']
      clear hk' hbl
      go_wp2
      go_ret
      exact ⟨rfl, rfl⟩
theorem refSum_calls {w : World} {base b n : Nat} {l : List Bool} (h : RW w base b n l) (hn : n ≤ 1000) : Calls Try.prog 31 #[.pointer (some ⟨b, 0, none⟩)] w fun e w' => e = .returned (cx (gl l) (bl l)) ∧ ∃ m, w' = w.drewN m := by
  have hb : ∀ m, Calls Try.prog 28 #[.pointer (some ⟨b, 0, none⟩)] (w.drewN m) fun e w' => e = .returned (.int .i64 (bl l)) ∧ w' = w.drewN m := fun m => bad_calls (w := w.drewN m) h hn
  have hg := gl_range l
  have hbr := bl_range l
  have hs := gl_bl l
  obtain ⟨A, c, h1, h2, h3, h4, h5, h6⟩ := h
  obtain ⟨_, c1⟩ := vcell h1
  have e1 : (l.length : Int) - bl l = gl l := by omega
  have ht : ∀ w, Calls Try.prog 36 #[.int .i64 ((l.length : Int) - bl l), .int .i64 (bl l)] w fun e w' => e = .returned (cx (gl l) (bl l)) ∧ w' = w := by
    intro w
    have := refTally_calls ((l.length : Int) - bl l) (bl l) w
    rw [e1, cl_of (by omega) (by omega), cl_of (by omega) (by omega)] at this
    rw [e1]
    exact this
  clear h1 h2 h3 h5 h6 hs hg e1
  generalize bl l = v at *
  generalize gl l = u at *
  go_enter Try.func31, Try.ntmps31
  go_wp2
  go_quiet (first | (go_at_call 28; exact Calls.quiet_of_same (hb _)) | (go_at_call 36; exact Calls.quiet_of_same (ht _)))
  go_wp2
  go_ret
  exact ⟨rfl, _, rfl⟩
end Go.Proofs.Ytnjmnklkbldmgaa

/- Stuff of the program and of the reference: each returns the plain mathematics' bits, in new memory. Condition: the slice reads as the bits, of which there are at most 2^20. -/
import Derived.Test.YtkiofgbfalihoaaBytesNew
import Derived.Test.YtkiofgbfalihoaaBitPlain
namespace Go.Proofs.Ytkiofgbfalihoaa
open Go.RowKit
open Bit
set_option linter.unusedVariables false

theorem is_zero {c : UInt8} (h : c = 0) : ((c.toNat : Int) == 0) = true := byte_eq h
theorem no_zero {c : UInt8} (h : c ≠ 0) : ((c.toNat : Int) == 0) = false := byte_ne h
theorem bit_0 (c : UInt8) (w : World) (h : c = 0) : Calls Try.prog 19 #[.int .u8 (c.toNat : Int)] w fun e w' => e = .returned (.int .u8 0) ∧ w = w' := by
  have h2 := is_zero h
  clear h
  go_enter Try.func19, Try.ntmps19
  go_wp2
  go_ret
  exact ⟨rfl, rfl⟩
theorem bit_1 (c : UInt8) (w : World) (h : c ≠ 0) : Calls Try.prog 19 #[.int .u8 (c.toNat : Int)] w fun e w' => e = .returned (.int .u8 1) ∧ w = w' := by
  have h2 := no_zero h
  clear h
  go_enter Try.func19, Try.ntmps19
  go_wp2
  go_ret
  exact ⟨rfl, rfl⟩
theorem one_0 (c : UInt8) (w : World) (h : c = 0) : Calls Try.prog 20 #[.int .u8 (c.toNat : Int)] w fun e w' => e = .returned (.int .u8 0) ∧ w = w' := by
  have h2 := is_zero h
  clear h
  go_enter Try.func20, Try.ntmps20
  go_wp2
  go_ret
  exact ⟨rfl, rfl⟩
theorem one_1 (c : UInt8) (w : World) (h : c ≠ 0) : Calls Try.prog 20 #[.int .u8 (c.toNat : Int)] w fun e w' => e = .returned (.int .u8 1) ∧ w = w' := by
  have h2 := no_zero h
  clear h
  go_enter Try.func20, Try.ntmps20
  go_wp2
  go_ret
  exact ⟨rfl, rfl⟩

/-- behind k of the bits, n ones standing behind -/
def SRel (W : World) (l s : List UInt8) (v o i : Value) (wr : World) : Prop :=
  ∃ (k n : Nat) (A : Option Addr) (c : Nat) (acc : List UInt8), k ≤ l.length ∧ n ≤ 4 ∧ i = .int .i64 k ∧ o = .int .i64 n ∧ v = .slice A acc.length c ∧ Own wr W.heap.size A c acc ∧ Below W.heap.size W wr ∧ acc.length ≤ s.length ∧ acc ++ stuff n (l.drop k) = s

theorem SRel.len {acc r s : List UInt8} (h : acc ++ r = s) : acc.length ≤ s.length := by rw [← h]; simp

set_option maxHeartbeats 1000000 in
theorem stuff_calls (A : Option Addr) (c : Nat) (l : List UInt8) (w : World) (hr : Rd w A l) (hl : l.length ≤ 1048576) :
    Calls Try.prog 10 #[.slice A l.length c] w (GivesOwn (stuff 0 l) w) := by
  have hsl := (stuff_len l 0 (by omega)).2
  obtain ⟨s, hss⟩ : ∃ s, stuff 0 l = s := ⟨_, rfl⟩
  have H0 := Lib.hid (show [] ++ stuff 0 (l.drop 0) = s from hss)
  rw [hss] at hsl
  rw [hss]
  clear hss
  go_enter Try.func10, Try.ntmps10
  go_wp2
  go_loopw [3, 4, 9] (SRel w l s) (fun _ _ i _ => l.length - (intOf i).toNat)
  case atStart => exact ⟨0, 0, none, 0, [], Nat.zero_le _, Nat.zero_le _, rfl, rfl, rfl, Own.nil _ _, Below.refl _ _, Nat.zero_le _, H0.out⟩
  case round =>
    obtain ⟨k, n, B, d, acc, hk, hn, rfl, rfl, rfl, own, bel, hle, hs⟩ := hrel
    clear H0
    by_cases hlt : k < l.length
    · obtain ⟨b, off, rfl, hb, hc⟩ := (hr.below bel).at_ hlt
      have hg : l.getD k 0 = l[k] := by simp [hlt]
      rw [hg] at hc
      clear hg
      unfold bv at hc
      by_cases h0 : l[k] = 0
      · have hs1 := Lib.hid (stuff_zero hlt h0 hs)
        have hl1 := SRel.len hs1.out
        obtain ⟨A', c', w', run, own', bel'⟩ := app_new wr w.heap.size B d acc [0] own bel.size (by simp; omega)
        have hz := is_zero h0
        have bc := fun w => bit_0 l[k] w h0
        clear hs h0 own
        generalize l[k] = x at hc hz bc
        have bel2 := bel.trans bel'
        generalize acc ++ [0] = acc' at run own' hs1 hl1
        go_wp2_with (first | (go_at_call 19; refine (bc _).mono ?_; rintro e w9 ⟨rfl, rfl⟩) | (at_builtin; refine Lib.wpList_append_run _ rfl _ _ _ _ rfl _ _ rfl rfl _ _ (run _) ?_))
        go_roundw
        case rel => exact ⟨k + 1, 0, A', c', acc', by omega, by omega, by go_num, rfl, rfl, own', bel2, hl1, hs1.out⟩
        case measure => simp [intOf]; omega
      · by_cases h4 : n = 4
        · have hs1 := Lib.hid (stuff_five hlt h0 h4 hs)
          have hl1 := SRel.len hs1.out
          obtain ⟨A', c', w', run, own', bel'⟩ := app_new wr w.heap.size B d acc [1] own bel.size (by simp; omega)
          have bel2 := bel.trans bel'
          obtain ⟨A2, c2, w2, run2, own2, bel3⟩ := app_new w' w.heap.size A' c' (acc ++ [1]) [0] own' bel2.size (by simp at hl1 ⊢; omega)
          have hz := no_zero h0
          have bc := fun w => bit_1 l[k] w h0
          clear hs h0 own own'
          generalize l[k] = x at hc hz bc
          have bel4 := bel2.trans bel3
          generalize acc ++ [1] = acc1 at run run2 own2 hs1 hl1
          generalize acc1 ++ [0] = acc2 at run2 own2 hs1 hl1
          subst h4
          go_wp2_with (first | (go_at_call 19; refine (bc _).mono ?_; rintro e w9 ⟨rfl, rfl⟩) | (at_builtin; refine Lib.wpList_append_run _ rfl (.tmp 13) (.tmp 16) _ _ rfl _ _ rfl rfl _ _ (run _) ?_) | (at_builtin; refine Lib.wpList_append_run _ rfl (.tmp 24) (.tmp 25) _ _ rfl _ _ rfl rfl _ _ (run2 _) ?_))
          go_roundw
          case rel => exact ⟨k + 1, 0, A2, c2, acc2, by omega, by omega, by go_num, rfl, rfl, own2, bel4, hl1, hs1.out⟩
          case measure => simp [intOf]; omega
        · have hs1 := Lib.hid (stuff_more hlt h0 h4 hs)
          have hl1 := SRel.len hs1.out
          obtain ⟨A', c', w', run, own', bel'⟩ := app_new wr w.heap.size B d acc [1] own bel.size (by simp; omega)
          have hz := no_zero h0
          have bc := fun w => bit_1 l[k] w h0
          have n5 : ((n : Int) + 1 == 5) = false := beq_eq_false_iff_ne.mpr (by omega)
          clear hs h0 own
          generalize l[k] = x at hc hz bc
          have bel2 := bel.trans bel'
          generalize acc ++ [1] = acc' at run own' hs1 hl1
          go_wp2_with (first | (go_at_call 19; refine (bc _).mono ?_; rintro e w9 ⟨rfl, rfl⟩) | (at_builtin; refine Lib.wpList_append_run _ rfl _ _ _ _ rfl _ _ rfl rfl _ _ (run _) ?_))
          go_roundw
          case rel => exact ⟨k + 1, n + 1, A', c', acc', by omega, by omega, by go_num, by go_num, rfl, own', bel2, hl1, hs1.out⟩
          case measure => simp [intOf]; omega
    · have HS := Lib.hid (stuff_end (by omega) hs)
      clear hs
      go_wp2
      go_ret
      exact ⟨B, d, by rw [HS.out]; rfl, by rw [← HS.out]; exact own, bel⟩
set_option maxHeartbeats 1000000 in
theorem refStuff_calls (A : Option Addr) (c : Nat) (l : List UInt8) (w : World) (hr : Rd w A l) (hl : l.length ≤ 1048576) :
    Calls Try.prog 14 #[.slice A l.length c] w (GivesOwn (stuff 0 l) w) := by
  have hsl := (stuff_len l 0 (by omega)).2
  obtain ⟨s, hss⟩ : ∃ s, stuff 0 l = s := ⟨_, rfl⟩
  have H0 := Lib.hid (show [] ++ stuff 0 (l.drop 0) = s from hss)
  rw [hss] at hsl
  rw [hss]
  clear hss
  go_enter Try.func14, Try.ntmps14
  go_wp2
  go_loopw [3, 4, 5] (SRel w l s) (fun _ _ i _ => l.length - (intOf i).toNat)
  case atStart => exact ⟨0, 0, none, 0, [], Nat.zero_le _, Nat.zero_le _, rfl, rfl, rfl, Own.nil _ _, Below.refl _ _, Nat.zero_le _, H0.out⟩
  case round =>
    obtain ⟨k, n, B, d, acc, hk, hn, rfl, rfl, rfl, own, bel, hle, hs⟩ := hrel
    clear H0
    by_cases hlt : k < l.length
    · obtain ⟨b, off, rfl, hb, hc⟩ := (hr.below bel).at_ hlt
      have hg : l.getD k 0 = l[k] := by simp [hlt]
      rw [hg] at hc
      clear hg
      unfold bv at hc
      by_cases h0 : l[k] = 0
      · have hs1 := Lib.hid (stuff_zero hlt h0 hs)
        have hl1 := SRel.len hs1.out
        obtain ⟨A', c', w', run, own', bel'⟩ := app_new wr w.heap.size B d acc [0] own bel.size (by simp; omega)
        have bc := fun w => one_0 l[k] w h0
        clear hs h0 own
        generalize l[k] = x at hc bc
        have bel2 := bel.trans bel'
        generalize acc ++ [0] = acc' at run own' hs1 hl1
        go_wp2_with (first | (go_at_call 20; refine (bc _).mono ?_; rintro e w9 ⟨rfl, rfl⟩) | (at_builtin; refine Lib.wpList_append_run _ rfl _ _ _ _ rfl _ _ rfl rfl _ _ (run _) ?_))
        go_roundw
        case rel => exact ⟨k + 1, 0, A', c', acc', by omega, by omega, by go_num, rfl, rfl, own', bel2, hl1, hs1.out⟩
        case measure => simp [intOf]; omega
      · by_cases h4 : n = 4
        · have hs1 := Lib.hid (stuff_five hlt h0 h4 hs)
          have hl1 := SRel.len hs1.out
          obtain ⟨A', c', w', run, own', bel'⟩ := app_new wr w.heap.size B d acc [1] own bel.size (by simp; omega)
          have bel2 := bel.trans bel'
          obtain ⟨A2, c2, w2, run2, own2, bel3⟩ := app_new w' w.heap.size A' c' (acc ++ [1]) [0] own' bel2.size (by simp at hl1 ⊢; omega)
          have bc := fun w => one_1 l[k] w h0
          clear hs h0 own own'
          generalize l[k] = x at hc bc
          have bel4 := bel2.trans bel3
          generalize acc ++ [1] = acc1 at run run2 own2 hs1 hl1
          generalize acc1 ++ [0] = acc2 at run2 own2 hs1 hl1
          subst h4
          go_wp2_with (first | (go_at_call 20; refine (bc _).mono ?_; rintro e w9 ⟨rfl, rfl⟩) | (at_builtin; refine Lib.wpList_append_run _ rfl (.tmp 18) (.tmp 20) _ _ rfl _ _ rfl rfl _ _ (run _) ?_) | (at_builtin; refine Lib.wpList_append_run _ rfl (.tmp 28) (.tmp 29) _ _ rfl _ _ rfl rfl _ _ (run2 _) ?_))
          go_roundw
          case rel => exact ⟨k + 1, 0, A2, c2, acc2, by omega, by omega, by go_num, rfl, rfl, own2, bel4, hl1, hs1.out⟩
          case measure => simp [intOf]; omega
        · have hs1 := Lib.hid (stuff_more hlt h0 h4 hs)
          have hl1 := SRel.len hs1.out
          obtain ⟨A', c', w', run, own', bel'⟩ := app_new wr w.heap.size B d acc [1] own bel.size (by simp; omega)
          have bc := fun w => one_1 l[k] w h0
          have n5 : ((n : Int) + 1 == 5) = false := beq_eq_false_iff_ne.mpr (by omega)
          clear hs h0 own
          generalize l[k] = x at hc bc
          have bel2 := bel.trans bel'
          generalize acc ++ [1] = acc' at run own' hs1 hl1
          go_wp2_with (first | (go_at_call 20; refine (bc _).mono ?_; rintro e w9 ⟨rfl, rfl⟩) | (at_builtin; refine Lib.wpList_append_run _ rfl _ _ _ _ rfl _ _ rfl rfl _ _ (run _) ?_))
          go_roundw
          case rel => exact ⟨k + 1, n + 1, A', c', acc', by omega, by omega, by go_num, by go_num, rfl, own', bel2, hl1, hs1.out⟩
          case measure => simp [intOf]; omega
    · have HS := Lib.hid (stuff_end (by omega) hs)
      clear hs
      go_wp2
      go_ret
      exact ⟨B, d, by rw [HS.out]; rfl, by rw [← HS.out]; exact own, bel⟩
end Go.Proofs.Ytkiofgbfalihoaa

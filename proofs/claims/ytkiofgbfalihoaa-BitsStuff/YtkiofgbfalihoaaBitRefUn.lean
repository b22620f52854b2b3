/- Unstuff of the reference: it returns what the plain mathematics tells. Condition: the slice reads as the bits, of which there are at most 2^20. -/
import Derived.Test.YtkiofgbfalihoaaBitStuff
namespace Go.Proofs.Ytkiofgbfalihoaa
open Go.RowKit
open Bit
set_option linter.unusedVariables false

/-- behind k of the bits: acc is read, n ones stand behind, and what is left leads to r -/
def URel (W : World) (l : List UInt8) (n : Nat) (r : List UInt8 × Int) (v i : Value) (wr : World) : Prop :=
  ∃ (k : Nat) (A : Option Addr) (c : Nat) (acc : List UInt8), k ≤ l.length ∧ i = .int .i64 k ∧ v = .slice A acc.length c ∧ Own wr W.heap.size A c acc ∧ Below W.heap.size W wr ∧ acc.length ≤ k ∧ un n acc (l.drop k) = r
def RRel (W : World) (l : List UInt8) (r : List UInt8 × Int) (v o i : Value) (wr : World) : Prop :=
  ∃ n : Nat, n ≤ 5 ∧ o = .int .i64 n ∧ URel W l n r v i wr

set_option maxHeartbeats 1000000 in
theorem refUnstuff_calls (A : Option Addr) (c : Nat) (l : List UInt8) (w : World) (hr : Rd w A l) (hl : l.length ≤ 1048576) :
    Calls Try.prog 16 #[.slice A l.length c] w (Gives2 (un 0 [] l) w) := by
  obtain ⟨r, hrr⟩ : ∃ r, un 0 [] l = r := ⟨_, rfl⟩
  rw [hrr]
  have HR := Lib.hid hrr
  clear hrr
  go_enter Try.func16, Try.ntmps16
  go_wp2
  go_loopw [4, 5, 6] (RRel w l r) (fun _ _ i _ => l.length - (intOf i).toNat)
  case atStart => exact ⟨0, by omega, rfl, 0, none, 0, [], Nat.zero_le _, rfl, rfl, Own.nil _ _, Below.refl _ _, Nat.zero_le _, HR.out⟩
  case round =>
    obtain ⟨n, hn, rfl, k, B, d, acc, hk, rfl, rfl, own, bel, hacc, hun⟩ := hrel
    clear HR
    by_cases hlt : k < l.length
    · obtain ⟨b, off, rfl, hb, hc⟩ := (hr.below bel).at_ hlt
      have hg : l.getD k 0 = l[k] := by simp [hlt]
      rw [hg] at hc
      clear hg
      unfold bv at hc
      by_cases h5 : n = 5
      · by_cases h0 : l[k] = 0
        · have hun1 := Lib.hid (un_skip hlt h5 h0 hun)
          have bc := fun w => one_0 l[k] w h0
          clear hun h0
          generalize l[k] = x at hc bc
          subst h5
          go_wp2_with (go_at_call 20; refine (bc _).mono ?_; rintro e w9 ⟨rfl, rfl⟩)
          go_roundw
          case rel => exact ⟨0, by omega, rfl, k + 1, B, d, acc, by omega, by go_num, rfl, own, bel, by omega, hun1.out⟩
          case measure => simp [intOf]; omega
        · have HU := Lib.hid (un_abort hlt h5 h0 hun)
          have bc := fun w => one_1 l[k] w h0
          clear hun h0
          generalize l[k] = x at hc bc
          subst h5
          go_wp2_with (go_at_call 20; refine (bc _).mono ?_; rintro e w9 ⟨rfl, rfl⟩)
          go_ret2
          exact gives2_bad HU.out bel
      · have n5 : ((n : Int) == 5) = false := beq_eq_false_iff_ne.mpr (by omega)
        by_cases h0 : l[k] = 0
        · have hun1 := Lib.hid (un_zero hlt h5 h0 hun)
          have bc := fun w => one_0 l[k] w h0
          obtain ⟨A', c', w', run, own', bel'⟩ := app_new wr w.heap.size B d acc [0] own bel.size (by simp; omega)
          clear hun h0
          generalize l[k] = x at hc bc
          have bel2 := bel.trans bel'
          have hl1 : (acc ++ [0]).length ≤ k + 1 := by simp; omega
          generalize acc ++ [0] = acc' at run own' hun1 hl1
          go_wp2_with (first | (go_at_call 20; refine (bc _).mono ?_; rintro e w9 ⟨rfl, rfl⟩) | (at_builtin; refine Lib.wpList_append_run _ rfl _ _ _ _ rfl _ _ rfl rfl _ _ (run _) ?_))
          go_roundw
          case rel => exact ⟨0, by omega, rfl, k + 1, A', c', acc', by omega, by go_num, rfl, own', bel2, hl1, hun1.out⟩
          case measure => simp [intOf]; omega
        · have hun1 := Lib.hid (un_more hlt h5 h0 hun)
          have bc := fun w => one_1 l[k] w h0
          obtain ⟨A', c', w', run, own', bel'⟩ := app_new wr w.heap.size B d acc [1] own bel.size (by simp; omega)
          clear hun h0
          generalize l[k] = x at hc bc
          have bel2 := bel.trans bel'
          have hl1 : (acc ++ [1]).length ≤ k + 1 := by simp; omega
          generalize acc ++ [1] = acc' at run own' hun1 hl1
          go_wp2_with (first | (go_at_call 20; refine (bc _).mono ?_; rintro e w9 ⟨rfl, rfl⟩) | (at_builtin; refine Lib.wpList_append_run _ rfl _ _ _ _ rfl _ _ rfl rfl _ _ (run _) ?_))
          go_roundw
          case rel => exact ⟨n + 1, by omega, by go_num, k + 1, A', c', acc', by omega, by go_num, rfl, own', bel2, hl1, hun1.out⟩
          case measure => simp [intOf]; omega
    · by_cases h5 : n = 5
      · have HU := Lib.hid (un_end5 (by omega) h5 hun)
        clear hun
        subst h5
        go_wp2
        go_ret2
        exact gives2_bad HU.out bel
      · have n5 : ((n : Int) == 5) = false := beq_eq_false_iff_ne.mpr (by omega)
        have HU := Lib.hid (un_end (by omega) h5 hun)
        clear hun
        go_wp2
        go_ret2
        exact gives2_good HU.out own.rd bel
end Go.Proofs.Ytkiofgbfalihoaa

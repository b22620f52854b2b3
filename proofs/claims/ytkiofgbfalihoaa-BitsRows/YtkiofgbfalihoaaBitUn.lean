/- Unstuff of the program, which goes by jumps: it returns what the plain mathematics tells. Condition: the slice reads as the bits, of which there are at most 2^20. -/
import Derived.Test.YtkiofgbfalihoaaBitRefUn
import Derived.Test.YtkiofgbfalihoaaScopeLabels
namespace Go.Proofs.Ytkiofgbfalihoaa
open Go.RowKit
open Bit
set_option linter.unusedVariables false

/-- the frame at a jump -/
def fr (A : Option Addr) (c : Nat) (l : List UInt8) (v i o : Value) (u : Nat → Value) : Act :=
  { tmps := #[.slice A l.length c, undef, .slice none 0 0, .int .i64 0, v, u 5, i, o, u 8, u 9, u 10, u 11, u 12, u 13, u 14, u 15, u 16, u 17, u 18, u 19, u 20, u 21, u 22, u 23, u 24, u 25, u 26, u 27, u 28, u 29, u 30, u 31, u 32, u 33, u 34, u 35, u 36, u 37, u 38, u 39, u 40, u 41, u 42], defers := [] }
/-- what holds at a jump to label lb: 0 behind a zero, 1 behind less than five ones, 2 behind five ones -/
def JFr (W : World) (A : Option Addr) (c : Nat) (l : List UInt8) (r : List UInt8 × Int) (lb : Nat) (a : Act) (wr : World) : Prop :=
  ∃ (n : Nat) (v i o : Value), (lb = 0 ∧ n = 0 ∨ lb = 1 ∧ n ≤ 4 ∧ o = .int .i64 n ∨ lb = 2 ∧ n = 5) ∧ URel W l n r v i wr ∧ ∃ u : Nat → Value, a = fr A c l v i o u
theorem jfr_mk {W : World} {A : Option Addr} {c : Nat} {l : List UInt8} {r : List UInt8 × Int} {lb : Nat} {a : Act} {wr : World} {v i o : Value} (n : Nat) (hl : lb = 0 ∧ n = 0 ∨ lb = 1 ∧ n ≤ 4 ∧ o = .int .i64 n ∨ lb = 2 ∧ n = 5) (hu : URel W l n r v i wr)
    (ha : a = fr A c l v i o (fun j => a.tmps.getD j undef)) : JFr W A c l r lb a wr := ⟨n, v, i, o, hl, hu, _, ha⟩

set_option maxHeartbeats 4000000 in
theorem unstuff_calls (A : Option Addr) (c : Nat) (l : List UInt8) (w : World) (hr : Rd w A l) (hl : l.length ≤ 1048576) :
    Calls Try.prog 11 #[.slice A l.length c] w (Gives2 (un 0 [] l) w) := by
  obtain ⟨r, hrr⟩ : ∃ r, un 0 [] l = r := ⟨_, rfl⟩
  rw [hrr]
  have HR := Lib.hid hrr
  clear hrr
  go_enter Try.func11, Try.ntmps11
  go_wp2
  refine wp_scope_labels (JFr w A c l r) (fun a' _ => l.length - (intOf (a'.tmps.getD 6 undef)).toNat) ?_ ?_
  · have hun : un 0 [] (l.drop 0) = r := HR.out
    have own : Own w w.heap.size none 0 [] := Own.nil _ _
    have bel : Below w.heap.size w w := Below.refl _ _
    clear HR
    by_cases hlt : 0 < l.length
    · obtain ⟨b, off, rfl, hb, hc⟩ := (hr.below bel).at_ hlt
      have hg : l.getD 0 0 = l[0] := by simp [hlt]
      rw [hg] at hc
      clear hg
      unfold bv at hc
      have n0 : ((0 : Int) == (l.length : Int)) = false := beq_eq_false_iff_ne.mpr (by omega)
      rw [Nat.add_zero] at hc
      by_cases h0 : l[0] = 0
      · have hun1 := Lib.hid (un_zero hlt (by omega) h0 hun)
        have bc := fun w => bit_0 l[0] w h0
        obtain ⟨A', c', w', run, own', bel'⟩ := app_new w w.heap.size none 0 [] [0] own bel.size (by simp)
        clear hun h0
        generalize l[0] = x at hc bc
        have bel2 := bel.trans bel'
        have hl1 : (([] : List UInt8) ++ [0]).length ≤ 0 + 1 := by simp
        generalize ([] : List UInt8) ++ [0] = acc' at run own' hun1 hl1
        go_wp2
        go_step3
        go_wp2
        go_step3
        go_wp2_with (first | (go_at_call 19; refine (bc _).mono ?_; rintro e w9 ⟨rfl, rfl⟩) | (at_builtin; refine Lib.wpList_append_run _ rfl _ _ _ _ rfl _ _ rfl rfl _ _ (run _) ?_))
        go_step3
        exact jfr_mk 0 (.inl ⟨rfl, rfl⟩) ⟨0 + 1, A', c', acc', by omega, by go_num, rfl, own', bel2, hl1, hun1.out⟩ rfl
      · have hun1 := Lib.hid (un_more hlt (by omega) h0 hun)
        have bc := fun w => bit_1 l[0] w h0
        obtain ⟨A', c', w', run, own', bel'⟩ := app_new w w.heap.size none 0 [] [1] own bel.size (by simp)
        clear hun h0
        generalize l[0] = x at hc bc
        have bel2 := bel.trans bel'
        have hl1 : (([] : List UInt8) ++ [1]).length ≤ 0 + 1 := by simp
        generalize ([] : List UInt8) ++ [1] = acc' at run own' hun1 hl1
        go_wp2
        go_step3
        go_wp2
        go_step3
        go_wp2_with (first | (go_at_call 19; refine (bc _).mono ?_; rintro e w9 ⟨rfl, rfl⟩) | (at_builtin; refine Lib.wpList_append_run _ rfl _ _ _ _ rfl _ _ rfl rfl _ _ (run _) ?_))
        go_step3
        exact jfr_mk (0 + 1) (.inr (.inl ⟨rfl, by omega, by go_num⟩)) ⟨0 + 1, A', c', acc', by omega, by go_num, rfl, own', bel2, hl1, hun1.out⟩ rfl
    · have HU := Lib.hid (un_end (by omega) (by omega) hun)
      have n0 : ((0 : Int) == (l.length : Int)) = true := by simp; omega
      clear hun
      go_wp2
      go_step3
      go_wp2
      go_step3
      go_wp2
      rw [jumps_ret]
      go_ret2
      exact gives2_good HU.out own.rd bel
  · rintro lb a' wr ⟨n, v, i, o, he, ⟨k, B, d, acc, hk, rfl, rfl, own, bel, hacc, hun⟩, u, rfl⟩
    clear HR
    unfold fr
    rcases he with ⟨rfl, rfl⟩ | ⟨rfl, hn, rfl⟩ | ⟨rfl, rfl⟩
    · refine ⟨_, rfl, ?_⟩
      by_cases hlt : k < l.length
      · obtain ⟨b, off, rfl, hb, hc⟩ := (hr.below bel).at_ hlt
        have hg : l.getD k 0 = l[k] := by simp [hlt]
        rw [hg] at hc
        clear hg
        unfold bv at hc
        have n0 : ((k : Int) == (l.length : Int)) = false := beq_eq_false_iff_ne.mpr (by omega)
        have n0' : (k == l.length) = false := beq_eq_false_iff_ne.mpr (by omega)
        by_cases h0 : l[k] = 0
        · have hun1 := Lib.hid (un_zero hlt (by omega) h0 hun)
          have bc := fun w => bit_0 l[k] w h0
          obtain ⟨A', c', w', run, own', bel'⟩ := app_new wr w.heap.size B d acc [0] own bel.size (by simp; omega)
          clear hun h0
          generalize l[k] = x at hc bc
          have bel2 := bel.trans bel'
          have hl1 : (acc ++ [0]).length ≤ k + 1 := by simp; omega
          generalize acc ++ [0] = acc' at run own' hun1 hl1
          go_wp2
          go_step3
          go_wp2_with (first | (go_at_call 19; refine (bc _).mono ?_; rintro e w9 ⟨rfl, rfl⟩) | (at_builtin; refine Lib.wpList_append_run _ rfl _ _ _ _ rfl _ _ rfl rfl _ _ (run _) ?_))
          go_step3
          refine ⟨jfr_mk 0 (.inl ⟨rfl, rfl⟩) ⟨k + 1, A', c', acc', by omega, by go_num, rfl, own', bel2, hl1, hun1.out⟩ rfl, ?_⟩
          simp [intOf]
          omega
        · have hun1 := Lib.hid (un_more hlt (by omega) h0 hun)
          have bc := fun w => bit_1 l[k] w h0
          obtain ⟨A', c', w', run, own', bel'⟩ := app_new wr w.heap.size B d acc [1] own bel.size (by simp; omega)
          clear hun h0
          generalize l[k] = x at hc bc
          have bel2 := bel.trans bel'
          have hl1 : (acc ++ [1]).length ≤ k + 1 := by simp; omega
          generalize acc ++ [1] = acc' at run own' hun1 hl1
          go_wp2
          go_step3
          go_wp2_with (first | (go_at_call 19; refine (bc _).mono ?_; rintro e w9 ⟨rfl, rfl⟩) | (at_builtin; refine Lib.wpList_append_run _ rfl _ _ _ _ rfl _ _ rfl rfl _ _ (run _) ?_))
          go_step3
          refine ⟨jfr_mk (0 + 1) (.inr (.inl ⟨rfl, by omega, by go_num⟩)) ⟨k + 1, A', c', acc', by omega, by go_num, rfl, own', bel2, hl1, hun1.out⟩ rfl, ?_⟩
          simp [intOf]
          omega
      · have HU := Lib.hid (un_end (by omega) (by omega) hun)
        have n0 : ((k : Int) == (l.length : Int)) = true := by simp; omega
        have n0' : (k == l.length) = true := by simp; omega
        clear hun
        go_wp2
        go_step3
        go_wp2
        rw [jumps_ret]
        go_ret2
        exact gives2_good HU.out own.rd bel
    · refine ⟨_, rfl, ?_⟩
      by_cases hlt : k < l.length
      · obtain ⟨b, off, rfl, hb, hc⟩ := (hr.below bel).at_ hlt
        have hg : l.getD k 0 = l[k] := by simp [hlt]
        rw [hg] at hc
        clear hg
        unfold bv at hc
        have n0 : ((k : Int) == (l.length : Int)) = false := beq_eq_false_iff_ne.mpr (by omega)
        have n0' : (k == l.length) = false := beq_eq_false_iff_ne.mpr (by omega)
        by_cases h0 : l[k] = 0
        · have hun1 := Lib.hid (un_zero hlt (by omega) h0 hun)
          have bc := fun w => bit_0 l[k] w h0
          obtain ⟨A', c', w', run, own', bel'⟩ := app_new wr w.heap.size B d acc [0] own bel.size (by simp; omega)
          clear hun h0
          generalize l[k] = x at hc bc
          have bel2 := bel.trans bel'
          have hl1 : (acc ++ [0]).length ≤ k + 1 := by simp; omega
          generalize acc ++ [0] = acc' at run own' hun1 hl1
          go_wp2_with (first | (go_at_call 19; refine (bc _).mono ?_; rintro e w9 ⟨rfl, rfl⟩) | (at_builtin; refine Lib.wpList_append_run _ rfl _ _ _ _ rfl _ _ rfl rfl _ _ (run _) ?_))
          go_step3
          refine ⟨jfr_mk 0 (.inl ⟨rfl, rfl⟩) ⟨k + 1, A', c', acc', by omega, by go_num, rfl, own', bel2, hl1, hun1.out⟩ rfl, ?_⟩
          simp [intOf]
          omega
        · by_cases h4 : n = 4
          · have hun1 := Lib.hid (un_more hlt (by omega) h0 hun)
            have bc := fun w => bit_1 l[k] w h0
            obtain ⟨A', c', w', run, own', bel'⟩ := app_new wr w.heap.size B d acc [1] own bel.size (by simp; omega)
            clear hun h0
            generalize l[k] = x at hc bc
            have bel2 := bel.trans bel'
            have hl1 : (acc ++ [1]).length ≤ k + 1 := by simp; omega
            generalize acc ++ [1] = acc' at run own' hun1 hl1
            subst h4
            go_wp2_with (first | (go_at_call 19; refine (bc _).mono ?_; rintro e w9 ⟨rfl, rfl⟩) | (at_builtin; refine Lib.wpList_append_run _ rfl _ _ _ _ rfl _ _ rfl rfl _ _ (run _) ?_))
            go_step3
            refine ⟨jfr_mk (4 + 1) (.inr (.inr ⟨rfl, rfl⟩)) ⟨k + 1, A', c', acc', by omega, by go_num, rfl, own', bel2, hl1, hun1.out⟩ rfl, ?_⟩
            simp [intOf]
            omega
          · have hun1 := Lib.hid (un_more hlt (by omega) h0 hun)
            have bc := fun w => bit_1 l[k] w h0
            obtain ⟨A', c', w', run, own', bel'⟩ := app_new wr w.heap.size B d acc [1] own bel.size (by simp; omega)
            clear hun h0
            generalize l[k] = x at hc bc
            have bel2 := bel.trans bel'
            have hl1 : (acc ++ [1]).length ≤ k + 1 := by simp; omega
            generalize acc ++ [1] = acc' at run own' hun1 hl1
            have n5 : ((n : Int) + 1 == 5) = false := beq_eq_false_iff_ne.mpr (by omega)
            go_wp2_with (first | (go_at_call 19; refine (bc _).mono ?_; rintro e w9 ⟨rfl, rfl⟩) | (at_builtin; refine Lib.wpList_append_run _ rfl _ _ _ _ rfl _ _ rfl rfl _ _ (run _) ?_))
            go_step3
            refine ⟨jfr_mk (n + 1) (.inr (.inl ⟨rfl, by omega, by go_num⟩)) ⟨k + 1, A', c', acc', by omega, by go_num, rfl, own', bel2, hl1, hun1.out⟩ rfl, ?_⟩
            simp [intOf]
            omega
      · have HU := Lib.hid (un_end (by omega) (by omega) hun)
        have n0 : ((k : Int) == (l.length : Int)) = true := by simp; omega
        have n0' : (k == l.length) = true := by simp; omega
        clear hun
        go_wp2
        rw [jumps_ret]
        go_ret2
        exact gives2_good HU.out own.rd bel
    · refine ⟨_, rfl, ?_⟩
      by_cases hlt : k < l.length
      · obtain ⟨b, off, rfl, hb, hc⟩ := (hr.below bel).at_ hlt
        have hg : l.getD k 0 = l[k] := by simp [hlt]
        rw [hg] at hc
        clear hg
        unfold bv at hc
        have n0 : ((k : Int) == (l.length : Int)) = false := beq_eq_false_iff_ne.mpr (by omega)
        have n0' : (k == l.length) = false := beq_eq_false_iff_ne.mpr (by omega)
        by_cases h0 : l[k] = 0
        · have hun1 := Lib.hid (un_skip hlt rfl h0 hun)
          have bc := fun w => bit_0 l[k] w h0
          clear hun h0
          generalize l[k] = x at hc bc
          go_wp2_with (go_at_call 19; refine (bc _).mono ?_; rintro e w9 ⟨rfl, rfl⟩)
          go_step3
          refine ⟨jfr_mk 0 (.inl ⟨rfl, rfl⟩) ⟨k + 1, B, d, acc, by omega, by go_num, rfl, own, bel, by omega, hun1.out⟩ rfl, ?_⟩
          simp [intOf]
          omega
        · have HU := Lib.hid (un_abort hlt rfl h0 hun)
          have bc := fun w => bit_1 l[k] w h0
          clear hun h0
          generalize l[k] = x at hc bc
          go_wp2_with (go_at_call 19; refine (bc _).mono ?_; rintro e w9 ⟨rfl, rfl⟩)
          rw [jumps_ret]
          go_ret2
          exact gives2_bad HU.out bel
      · have HU := Lib.hid (un_end5 (by omega) rfl hun)
        have n0 : ((k : Int) == (l.length : Int)) = true := by simp; omega
        have n0' : (k == l.length) = true := by simp; omega
        clear hun
        go_wp2
        rw [jumps_ret]
        go_ret2
        exact gives2_bad HU.out bel
end Go.Proofs.Ytkiofgbfalihoaa

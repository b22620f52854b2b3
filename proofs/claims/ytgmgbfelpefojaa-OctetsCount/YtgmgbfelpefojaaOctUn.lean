/- Unstuff of the program, which goes by jumps: it returns what the plain mathematics tells. Condition: the slice reads as the octets, of which there are at most 2^20. -/
import Derived.Test.YtgmgbfelpefojaaOctRefUn
import Derived.Test.YtgmgbfelpefojaaScopeLabels
namespace Go.Proofs.Ytgmgbfelpefojaa
open Go.RowKit
open Oct
set_option linter.unusedVariables false

/-- the frame at a jump -/
def fr (A : Option Addr) (c : Nat) (l : List UInt8) (v i : Value) (u : Nat → Value) : Act :=
  { tmps := #[.slice A l.length c, undef, .slice none 0 0, .int .i64 0, v, u 5, i, u 7, u 8, u 9, u 10, u 11, u 12, u 13, u 14, u 15, u 16, u 17, u 18, u 19, u 20, u 21, u 22, u 23, u 24, u 25, u 26, u 27, u 28, u 29, u 30, u 31, u 32, u 33, u 34, u 35, u 36, u 37, u 38, u 39, u 40, u 41, u 42], defers := [] }
/-- what holds at a jump to label lb: 0 ahead of an octet, 1 behind an Escape -/
def JFr (W : World) (A : Option Addr) (c : Nat) (l : List UInt8) (r : List UInt8 × Int) (lb : Nat) (a : Act) (wr : World) : Prop :=
  ∃ (e : Bool) (v i : Value), (lb = 0 ∧ e = false ∨ lb = 1 ∧ e = true) ∧ URel W l e r v i wr ∧ ∃ u : Nat → Value, a = fr A c l v i u
theorem jfr_mk {W : World} {A : Option Addr} {c : Nat} {l : List UInt8} {r : List UInt8 × Int} {lb : Nat} {a : Act} {wr : World} {v i : Value} (e : Bool) (hl : lb = 0 ∧ e = false ∨ lb = 1 ∧ e = true) (hu : URel W l e r v i wr)
    (ha : a = fr A c l v i (fun j => a.tmps.getD j undef)) : JFr W A c l r lb a wr := ⟨e, v, i, hl, hu, _, ha⟩

set_option maxHeartbeats 2000000 in
theorem unstuff_calls (A : Option Addr) (c : Nat) (l : List UInt8) (w : World) (hr : Rd w A l) (hl : l.length ≤ 1048576) :
    Calls Try.prog 10 #[.slice A l.length c] w (Gives2 (un false [] l) w) := by
  obtain ⟨r, hrr⟩ : ∃ r, un false [] l = r := ⟨_, rfl⟩
  rw [hrr]
  have HR := Lib.hid hrr
  clear hrr
  go_enter Try.func10, Try.ntmps10
  go_wp2
  refine wp_scope_labels (JFr w A c l r) (fun a' _ => l.length - (intOf (a'.tmps.getD 6 undef)).toNat) ?_ ?_
  · have hun : un false [] (l.drop 0) = r := HR.out
    obtain ⟨acc, hacc⟩ : ∃ acc : List UInt8, acc = [] := ⟨_, rfl⟩
    rw [← hacc] at hun
    have own : Own w w.heap.size none 0 acc := by rw [hacc]; exact Own.nil _ _
    have bel : Below w.heap.size w w := Below.refl _ _
    obtain ⟨B, hB⟩ : ∃ B : Option Addr, B = none := ⟨_, rfl⟩
    obtain ⟨d, hd⟩ : ∃ d : Nat, d = 0 := ⟨_, rfl⟩
    subst hB hd hacc
    clear HR
    by_cases hlt : 0 < l.length
    · obtain ⟨b, off, rfl, hb, hc⟩ := (hr.below bel).at_ hlt
      have hg : l.getD 0 0 = l[0] := by simp [hlt]
      rw [hg] at hc
      clear hg
      unfold bv at hc
      have n0 : ((0 : Int) == (l.length : Int)) = false := beq_eq_false_iff_ne.mpr (by omega)
      rw [Nat.add_zero] at hc
      by_cases h1 : l[0] = 126
      · have HU := Lib.hid (flag0 hlt h1 hun)
        have h2 := is_flag h1
        clear hun h1
        generalize l[0] = x at hc h2
        go_wp2
        go_step3
        go_wp2
        rw [jumps_ret]
        go_ret2
        exact gives2_bad HU.out bel
      · by_cases h4 : l[0] = 125
        · have hun1 := Lib.hid (esc0 hlt h4 hun)
          have h2 := no_flag h1
          have h3 := is_esc h4
          clear hun h1 h4
          generalize l[0] = x at hc h2 h3
          go_wp2
          go_step3
          go_wp2
          go_step3
          exact jfr_mk true (.inr ⟨rfl, rfl⟩) ⟨0 + 1, _, _, [], by omega, by go_num, rfl, own, bel, by simp, hun1.out⟩ rfl
        · have h2 := no_flag h1
          have h3 := no_esc h4
          have hun1 := Lib.hid (step0 hlt h1 h4 hun)
          obtain ⟨A', c', w', run, own', bel'⟩ := app_new w w.heap.size none 0 [] [l[0]] own bel.size (by simp)
          clear hun h1 h4
          generalize l[0] = x at hc h2 h3 run own' hun1
          have bel2 := bel.trans bel'
          have hl1 : ([] ++ [x]).length ≤ 0 + 1 := by simp
          generalize ([] : List UInt8) ++ [x] = acc' at run own' hun1 hl1
          go_wp2
          go_step3
          go_wp2_with (at_builtin; refine Lib.wpList_append_run _ rfl _ _ _ _ rfl _ _ rfl rfl _ _ (run _) ?_)
          go_step3
          exact jfr_mk false (.inl ⟨rfl, rfl⟩) ⟨0 + 1, A', c', acc', by omega, by go_num, rfl, own', bel2, hl1, hun1.out⟩ rfl
    · have HU := Lib.hid (end0 (by omega) hun)
      have n0 : ((0 : Int) == (l.length : Int)) = true := by simp; omega
      clear hun
      go_wp2
      go_step3
      go_wp2
      rw [jumps_ret]
      go_ret2
      exact gives2_good HU.out own.rd bel
  · rintro lb a' wr ⟨e, v, i, he, ⟨k, B, d, acc, hk, rfl, rfl, own, bel, hacc, hun⟩, u, rfl⟩
    clear HR
    unfold fr
    rcases he with ⟨rfl, rfl⟩ | ⟨rfl, rfl⟩
    · refine ⟨_, rfl, ?_⟩
      by_cases hlt : k < l.length
      · obtain ⟨b, off, rfl, hb, hc⟩ := (hr.below bel).at_ hlt
        have hg : l.getD k 0 = l[k] := by simp [hlt]
        rw [hg] at hc
        clear hg
        unfold bv at hc
        have n0 : ((k : Int) == (l.length : Int)) = false := beq_eq_false_iff_ne.mpr (by omega)
        have n0' : (k == l.length) = false := beq_eq_false_iff_ne.mpr (by omega)
        by_cases h1 : l[k] = 126
        · have HU := Lib.hid (flag0 hlt h1 hun)
          have h2 := is_flag h1
          clear hun h1
          generalize l[k] = x at hc h2
          go_wp2
          rw [jumps_ret]
          go_ret2
          exact gives2_bad HU.out bel
        · by_cases h4 : l[k] = 125
          · have hun1 := Lib.hid (esc0 hlt h4 hun)
            have h2 := no_flag h1
            have h3 := is_esc h4
            clear hun h1 h4
            generalize l[k] = x at hc h2 h3
            go_wp2
            go_step3
            refine ⟨jfr_mk true (.inr ⟨rfl, rfl⟩) ⟨k + 1, _, _, acc, by omega, by go_num, rfl, own, bel, by omega, hun1.out⟩ rfl, ?_⟩
            simp [intOf]
            omega
          · have h2 := no_flag h1
            have h3 := no_esc h4
            have hun1 := Lib.hid (step0 hlt h1 h4 hun)
            obtain ⟨A', c', w', run, own', bel'⟩ := app_new wr w.heap.size B d acc [l[k]] own bel.size (by simp; omega)
            clear hun h1 h4
            generalize l[k] = x at hc h2 h3 run own' hun1
            have bel2 := bel.trans bel'
            have hl1 : (acc ++ [x]).length ≤ k + 1 := by simp; omega
            generalize acc ++ [x] = acc' at run own' hun1 hl1
            go_wp2_with (at_builtin; refine Lib.wpList_append_run _ rfl _ _ _ _ rfl _ _ rfl rfl _ _ (run _) ?_)
            go_step3
            refine ⟨jfr_mk false (.inl ⟨rfl, rfl⟩) ⟨k + 1, A', c', acc', by omega, by go_num, rfl, own', bel2, hl1, hun1.out⟩ rfl, ?_⟩
            simp [intOf]
            omega
      · have HU := Lib.hid (end0 (by omega) hun)
        have n0 : ((k : Int) == (l.length : Int)) = true := by simp; omega
        have n0' : (k == l.length) = true := by simp; omega
        clear hun
        go_wp2
        rw [jumps_ret]
        go_ret2
        exact gives2_good HU.out own.rd bel
    · refine ⟨_, rfl, ?_⟩
      by_cases hlt : k < l.length
      · obtain ⟨b, off, rfl, hb, hc⟩ := (hr.below bel).at_ hlt
        have hg : l.getD k 0 = l[k] := by simp [hlt]
        rw [hg] at hc
        clear hg
        unfold bv at hc
        have n0 : ((k : Int) == (l.length : Int)) = false := beq_eq_false_iff_ne.mpr (by omega)
        have n0' : (k == l.length) = false := beq_eq_false_iff_ne.mpr (by omega)
        by_cases h1 : l[k] = 126
        · have HU := Lib.hid (flag1 hlt h1 hun)
          have h2 := is_flag h1
          clear hun h1
          generalize l[k] = x at hc h2
          go_wp2
          rw [jumps_ret]
          go_ret2
          exact gives2_bad HU.out bel
        · have h2 := no_flag h1
          have hun1 := Lib.hid (step1 hlt h1 hun)
          obtain ⟨A', c', w', run, own', bel'⟩ := app_new wr w.heap.size B d acc [l[k] ^^^ 32] own bel.size (by simp; omega)
          have hx := turned l[k]
          clear hun h1
          generalize l[k] = x at hc h2 hx run own' hun1
          generalize x ^^^ 32 = z at hx run own' hun1
          have bel2 := bel.trans bel'
          have hl1 : (acc ++ [z]).length ≤ k + 1 := by simp; omega
          generalize acc ++ [z] = acc' at run own' hun1 hl1
          go_wp2_with (at_builtin; refine Lib.wpList_append_run _ rfl _ _ _ _ rfl _ _ rfl rfl _ _ (run _) ?_)
          go_step3
          refine ⟨jfr_mk false (.inl ⟨rfl, rfl⟩) ⟨k + 1, A', c', acc', by omega, by go_num, rfl, own', bel2, hl1, hun1.out⟩ rfl, ?_⟩
          simp [intOf]
          omega
      · have HU := Lib.hid (end1 (by omega) hun)
        have n0 : ((k : Int) == (l.length : Int)) = true := by simp; omega
        have n0' : (k == l.length) = true := by simp; omega
        clear hun
        go_wp2
        rw [jumps_ret]
        go_ret2
        exact gives2_bad HU.out bel
end Go.Proofs.Ytgmgbfelpefojaa

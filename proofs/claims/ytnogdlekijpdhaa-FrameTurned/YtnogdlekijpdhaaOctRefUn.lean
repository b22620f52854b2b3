/- Unstuff of the reference: it returns what the plain mathematics tells. Condition: the slice reads as the octets, of which there are at most 2^20. -/
import Derived.Test.YtnogdlekijpdhaaOctStuff
namespace Go.Proofs.Ytnogdlekijpdhaa
open Go.RowKit
open Oct
set_option linter.unusedVariables false

/-- behind k of the octets: acc is read, and what is left leads to r -/
def URel (W : World) (l : List UInt8) (e : Bool) (r : List UInt8 × Int) (v i : Value) (wr : World) : Prop :=
  ∃ (k : Nat) (A : Option Addr) (c : Nat) (acc : List UInt8), k ≤ l.length ∧ i = .int .i64 k ∧ v = .slice A acc.length c ∧ Own wr W.heap.size A c acc ∧ Below W.heap.size W wr ∧ acc.length ≤ k ∧ un e acc (l.drop k) = r

set_option maxHeartbeats 1000000 in
theorem refUnstuffOwn_calls (A : Option Addr) (c : Nat) (l : List UInt8) (w : World) (hr : Rd w A l) (hl : l.length ≤ 1048576) :
    Calls Try.prog 30 #[.slice A l.length c] w (Gives2Own (un false [] l) w) := by
  obtain ⟨r, hrr⟩ : ∃ r, un false [] l = r := ⟨_, rfl⟩
  rw [hrr]
  have HR := Lib.hid hrr
  clear hrr
  go_enter Try.func30, Try.ntmps30
  go_wp2
  go_loopw [4, 5] (URel w l false r) (fun _ i _ => l.length - (intOf i).toNat)
  case atStart => exact ⟨0, none, 0, [], Nat.zero_le _, rfl, rfl, Own.nil _ _, Below.refl _ _, Nat.zero_le _, HR.out⟩
  case round =>
    obtain ⟨k, B, d, acc, hk, rfl, rfl, own, bel, hacc, hun⟩ := hrel
    clear HR
    by_cases hlt : k < l.length
    · obtain ⟨b, off, rfl, hb, hc⟩ := (hr.below bel).at_ hlt
      have hg : l.getD k 0 = l[k] := by simp [hlt]
      rw [hg] at hc
      clear hg
      unfold bv at hc
      by_cases h1 : l[k] = 126
      · have HU := Lib.hid (flag0 hlt h1 hun)
        have h2 := is_flag h1
        have h3 := no_esc (c := l[k]) (by rw [h1]; decide)
        clear hun h1
        generalize l[k] = x at hc h2 h3
        go_wp2
        go_ret2
        exact own2_bad HU.out bel
      · by_cases h4 : l[k] = 125
        · have hun1 := esc0 hlt h4 hun
          have h2 := is_esc h4
          clear hun h1 h4
          generalize l[k] = x at hc h2
          by_cases hlt2 : k + 1 < l.length
          · obtain ⟨b', off', hA, hb', hc'⟩ := (hr.below bel).at_ hlt2
            injection hA with hA
            injection hA with hA1 hA2
            subst hA1 hA2
            have hg : l.getD (k + 1) 0 = l[k + 1] := by simp [hlt2]
            rw [hg] at hc'
            clear hg
            unfold bv at hc'
            have n1 : ((k : Int) + 1 == (l.length : Int)) = false := beq_eq_false_iff_ne.mpr (by omega)
            by_cases h5 : l[k + 1] = 126
            · have HU := Lib.hid (flag1 hlt2 h5 hun1)
              have h6 := is_flag h5
              clear hun1 h5
              generalize l[k + 1] = y at hc' h6
              go_wp2
              go_ret2
              exact own2_bad HU.out bel
            · have h6 := no_flag h5
              have hun2 := Lib.hid (step1 hlt2 h5 hun1)
              clear hun1 h5
              obtain ⟨A', c', w', run, own', bel'⟩ := app_new wr w.heap.size B d acc [l[k + 1] ^^^ 32] own bel.size (by simp; omega)
              have hx := turned l[k + 1]
              generalize l[k + 1] = y at hc' h6 hx run own' hun2
              generalize y ^^^ 32 = z at hx run own' hun2
              have bel2 := bel.trans bel'
              have hl1 : (acc ++ [z]).length ≤ k + 2 := by simp; omega
              have own2 := own'
              have hun3 := hun2
              generalize acc ++ [z] = acc' at run own' own2 hun2 hun3 hl1
              go_wp2_with (at_builtin; refine Lib.wpList_append_run _ rfl _ _ _ _ rfl _ _ rfl rfl _ _ (run _) ?_)
              go_roundw
              case rel => exact ⟨k + 2, A', c', acc', by omega, by go_num, rfl, own', bel2, hl1, hun2.out⟩
              case measure => simp [intOf]; omega
          · have HU := Lib.hid (end1 (by omega) hun1)
            obtain ⟨n, hn⟩ : ∃ n, n = k + 1 := ⟨_, rfl⟩
            have n1 : ((k : Int) + 1 == (l.length : Int)) = true := by simp; omega
            clear hun1 hn
            go_wp2
            go_ret2
            exact own2_bad HU.out bel
        · have h2 := no_flag h1
          have h3 := no_esc h4
          have hun2 := Lib.hid (step0 hlt h1 h4 hun)
          obtain ⟨A', c', w', run, own', bel'⟩ := app_new wr w.heap.size B d acc [l[k]] own bel.size (by simp; omega)
          clear hun h1 h4
          generalize l[k] = x at hc h2 h3 run own' hun2
          have bel2 := bel.trans bel'
          have hl1 : (acc ++ [x]).length ≤ k + 1 := by simp; omega
          generalize acc ++ [x] = acc' at run own' hun2 hl1
          go_wp2_with (at_builtin; refine Lib.wpList_append_run _ rfl _ _ _ _ rfl _ _ rfl rfl _ _ (run _) ?_)
          go_roundw
          case rel => exact ⟨k + 1, A', c', acc', by omega, by go_num, rfl, own', bel2, hl1, hun2.out⟩
          case measure => simp [intOf]; omega
    · have HU := Lib.hid (end0 (by omega) hun)
      clear hun
      go_wp2
      go_ret2
      exact own2_good HU.out own bel
theorem refUnstuff_calls (A : Option Addr) (c : Nat) (l : List UInt8) (w : World) (hr : Rd w A l) (hl : l.length ≤ 1048576) :
    Calls Try.prog 30 #[.slice A l.length c] w (Gives2 (un false [] l) w) := (refUnstuffOwn_calls A c l w hr hl).mono fun _ _ h => h.gives
end Go.Proofs.Ytnogdlekijpdhaa

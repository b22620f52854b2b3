/- The law MonitorHeals, walked. Condition: the slice reads as its bools. -/
import Derived.Test.YtnjmnklkbldmgaaMonOne
import Derived.Test.YtnjmnklkbldmgaaBoolRows
namespace Go.Proofs.Ytnjmnklkbldmgaa
open Go.RowKit
set_option linter.unusedVariables false

/-- j good events after a bad one, of a line that was not good: it stands until the last of G -/
structure He (m : Mo) (G : Int) (j : Nat) : Prop where
  good : m.good = G
  run : m.run = j
  stands : (j : Int) < G → m.st ≠ 0
  heals : (j : Int) = G → m.st = 0 ∧ m.L = []
theorem He.step {m : Mo} {G : Int} {j : Nat} (h : He m G j) (hj : (j : Int) < G) : He (m.note true) G (j + 1) := by
  obtain ⟨r1, r2, _⟩ := Mo.note_run m true
  have h3 : (m.hear true).good = G := h.good
  have h4 : (m.hear true).st = m.st := rfl
  have h5 : (m.hear true).run = (j : Int) + 1 := by show m.run + 1 = _; rw [h.run]
  have hs := h.stands hj
  refine ⟨r2.trans h.good, by rw [r1, h.run]; rfl, fun hlt => ?_, fun he => ?_⟩
  · unfold Mo.note Mo.judge
    rw [h3, h4, h5, if_neg (by omega)]
    split
    · show (2 : Int) ≠ 0; decide
    · rw [if_neg (fun k => hs k.1)]
      exact hs
  · unfold Mo.note Mo.judge
    rw [h3, h4, h5, if_pos ⟨hs, by omega⟩]
    exact ⟨rfl, rfl⟩
set_option maxHeartbeats 1000000 in
theorem MonitorHeals_far (B G S : Int) (A : Option Addr) (len c : Nat) (w : World) (hm : len ≤ 9223372036854775807)
    (h : B < 1 ∨ (1 ≤ B ∧ 16 < B) ∨ (1 ≤ B ∧ B ≤ 16 ∧ G < 1) ∨ (1 ≤ B ∧ B ≤ 16 ∧ 1 ≤ G ∧ 16 < G) ∨ (1 ≤ B ∧ B ≤ 16 ∧ 1 ≤ G ∧ G ≤ 16 ∧ S < 1) ∨ (1 ≤ B ∧ B ≤ 16 ∧ 1 ≤ G ∧ G ≤ 16 ∧ 1 ≤ S ∧ 1073741824 < S) ∨ (1 ≤ B ∧ B ≤ 16 ∧ 1 ≤ G ∧ G ≤ 16 ∧ 1 ≤ S ∧ S ≤ 1073741824 ∧ 100 < len)) :
    Calls Try.prog 4 #[.int .i64 B, .int .i64 G, .int .i64 S, .slice A len c] w fun e w' => e = .returned (.bool true) ∧ Below w.heap.size w w' := by
  rcases h with h | ⟨h1, h⟩ | ⟨h1, h2, h⟩ | ⟨h1, h2, h3, h⟩ | ⟨h1, h2, h3, h4, h⟩ | ⟨h1, h2, h3, h4, h5, h⟩ | ⟨h1, h2, h3, h4, h5, h6, h⟩
  all_goals
    go_enter Try.func4, Try.ntmps4
    go_wp2_with fail
    refine (alive_calls w).mono ?_
    rintro e w' ⟨rfl, hb⟩
    go_wp2
    go_ret
    exact ⟨rfl, hb⟩
def H1 (w : World) (b : Nat) (m0 : Mo) (l : List Bool) (i : Value) (v : World) : Prop := ∃ k : Nat, k ≤ l.length ∧ i = .int .i64 k ∧ One w v b (m0.heard (l.take k))
def H2 (w : World) (b : Nat) (G was : Int) (i : Value) (v : World) : Prop := ∃ (j : Nat) (m : Mo), (j : Int) ≤ G ∧ i = .int .i64 ((j : Int) + 1) ∧ m.run = j ∧ (was ≠ 0 → He m G j) ∧ One w v b m
set_option maxHeartbeats 1000000 in
theorem MonitorHeals_near (B G S : Int) (A : Option Addr) (c : Nat) (l : List Bool) (w : World) (hB : 1 ≤ B ∧ B ≤ 16) (hG : 1 ≤ G ∧ G ≤ 16) (hS : 1 ≤ S ∧ S ≤ 1073741824) (hr : RdB w A l) (hl : l.length ≤ 100) :
    Calls Try.prog 4 #[.int .i64 B, .int .i64 G, .int .i64 S, .slice A l.length c] w fun e w' => e = .returned (.bool true) ∧ Below w.heap.size w w' := by
  obtain ⟨i1, i2⟩ := hB
  obtain ⟨i3, i4⟩ := hG
  obtain ⟨i5, i6⟩ := hS
  go_enter Try.func4, Try.ntmps4
  go_wp2_with fail
  refine (alive_calls w).mono ?_
  rintro e W ⟨rfl, hb⟩
  have HB := Lib.hid hb
  clear hb
  go_wp2_with fail
  refine (one_new B G S W).mono ?_
  rintro e V1 ⟨b, rfl, one⟩
  have hgood := Lib.hid (show (mnew B G S).good = G by show min (max G 1) 16 = G; omega)
  have hrun := Lib.hid (show (mnew B G S).run = 0 from rfl)
  generalize mnew B G S = m0 at *
  have ONE := Lib.hid (one.later HB.out)
  clear one HB
  go_wp2
  go_loopw [11] (H1 w b m0 l) (fun i _ => l.length - (intOf i).toNat)
  case atStart => exact ⟨0, Nat.zero_le _, rfl, ONE.out⟩
  case round =>
    clear ONE
    obtain ⟨k, hk, rfl, one⟩ := hrel
    have hru := Mo.heard_run (l.take k) m0 (by rw [hrun.out]; omega)
    rw [hrun.out, List.length_take, Nat.min_eq_left hk] at hru
    by_cases hlt : k < l.length
    · obtain ⟨g, off, rfl, hbb, hc⟩ := (hr.below one.bel).at_ hlt
      have hs := Mo.heard_take m0 l k hlt
      generalize l.getD k false = x at hc hs
      have cn := one.note x (fun _ => by omega)
      rw [← hs] at cn
      clear one hs hru
      go_wp2_with fail
      refine cn.mono ?_
      rintro e v1 ⟨rfl, one⟩
      have ONE := Lib.hid one
      clear one cn
      go_wp2
      go_roundw
      case rel => exact ⟨k + 1, by omega, by go_num, ONE.out⟩
      case measure => simp [intOf]; omega
    · rw [show l.take k = l from List.take_of_length_le (by omega)] at one
      have hgd : (m0.heard l).good = G := by
        have : ∀ (l : List Bool) (m : Mo), (m.heard l).good = m.good := by
          intro l
          induction l with
          | nil => exact fun _ => rfl
          | cons x l ih => exact fun m => (ih (m.note x)).trans (Mo.note_run m x).2.1
        rw [this, hgood.out]
      clear hru
      generalize m0.heard l = m1 at *
      have cn := one.note false (fun e => by cases e)
      obtain ⟨r1, r2, _⟩ := Mo.note_run m1 false
      rw [if_neg (by simp)] at r1
      rw [hgd] at r2
      clear one hgd hgood hrun
      generalize m1.note false = m2 at *
      go_wp2_with fail
      refine cn.mono ?_
      rintro e v1 ⟨rfl, one⟩
      have cs := one.state
      have ONE := Lib.hid one
      clear one cn
      obtain ⟨was, hwas⟩ : ∃ was, m2.st = was := ⟨_, rfl⟩
      rw [hwas] at cs
      have R1 := Lib.hid (show m2.run = ((0 : Nat) : Int) from r1)
      have HE := Lib.hid (show was ≠ 0 → He m2 G 0 from fun h => ⟨r2, R1.out, fun _ => by rw [hwas]; exact h, fun e => by omega⟩)
      clear r1 r2 hwas
      go_wp2_with fail
      refine cs.mono ?_
      rintro e w' ⟨rfl, rfl⟩
      clear cs
      go_wp2
      go_loopw [13] (H2 w b G was) (fun i _ => (G + 1 - intOf i).toNat)
      case atStart => exact ⟨0, m2, by omega, rfl, R1.out, HE.out, ONE.out⟩
      case round =>
        clear ONE R1 HE
        obtain ⟨j, m, hj, rfl, hrun, he, one⟩ := hrel
        by_cases hlt : (j : Int) < G
        · have cn := one.note true (fun _ => by omega)
          have h1 := (Mo.note_run m true).1
          rw [if_pos rfl, hrun] at h1
          have H1' := Lib.hid (show (m.note true).run = ((j + 1 : Nat) : Int) from h1)
          have he2 : was ≠ 0 → He (m.note true) G (j + 1) := fun h => (he h).step hlt
          clear he one h1 hrun
          generalize m.note true = m3 at *
          by_cases hw : was = 0
          · have HE := Lib.hid he2
            clear he2
            have hw' : (was != 0) = false := by simp [hw]
            clear hw
            go_wp2_with fail
            refine cn.mono ?_
            rintro e v1 ⟨rfl, one⟩
            have ONE := Lib.hid one
            clear one cn
            go_wp2
            go_roundw
            case rel => exact ⟨j + 1, m3, by omega, by go_num, H1'.out, HE.out, ONE.out⟩
            case measure => simp [intOf]; omega
          · have h3 := he2 hw
            have HE := Lib.hid he2
            clear he2
            have hw' : (was != 0) = true := by simp [hw]
            by_cases hend : (j : Int) + 1 = G
            · have hst := (h3.heals (by omega)).1
              rw [hst] at cn
              have hd : ((j : Int) + 1 == G) = true := by simp [hend]
              clear h3 hst
              have HEND := Lib.hid hend
              clear hend
              go_wp2_with fail
              refine cn.mono ?_
              rintro e v1 ⟨rfl, one⟩
              have ONE := Lib.hid one
              clear one cn
              go_wp2
              go_roundw
              case rel => exact ⟨j + 1, m3, by omega, by go_num, H1'.out, HE.out, ONE.out⟩
              case measure => simp [intOf]; omega
            · have hst := h3.stands (by omega)
              have hst' : (m3.st == 0) = false := by simpa using hst
              have hd : ((j : Int) + 1 == G) = false := by simpa using hend
              clear h3 hst
              go_wp2_with fail
              refine cn.mono ?_
              rintro e v1 ⟨rfl, one⟩
              have ONE := Lib.hid one
              clear one cn
              go_wp2
              go_roundw
              case rel => exact ⟨j + 1, m3, by omega, by go_num, H1'.out, HE.out, ONE.out⟩
              case measure => simp [intOf]; omega
        · have FIN := Lib.hid one.bel
          by_cases hw : was = 0
          · have hw' : (was == 0) = true := by simp [hw]
            clear one he hrun
            go_wp2
            go_ret
            exact ⟨rfl, FIN.out⟩
          · have hw' : (was == 0) = false := by simp [hw]
            obtain ⟨s1, s2⟩ := (he hw).heals (by omega)
            have cs := one.state
            have cm := one.sum
            rw [s1] at cs
            rw [s2, show gl [] = 0 from rfl, show bl [] = 0 from rfl, cx_zero] at cm
            have o0 : FloatKind.f64.format.order 0 0 = some .eq := by decide +kernel
            clear one he hrun s1 s2
            go_wp2_with fail
            refine cs.mono ?_
            rintro e w' ⟨rfl, rfl⟩
            go_wp2_with fail
            refine cm.mono ?_
            rintro e w' ⟨rfl, rfl⟩
            go_wp2
            go_ret
            exact ⟨rfl, FIN.out⟩
theorem MonitorHeals_walk (B G S : Int) (A : Option Addr) (len cap : Nat) (w : World) (h1 : (Lit.int .i64 B).wf = true) (h2 : (Lit.int .i64 G).wf = true) (h3 : (Lit.int .i64 S).wf = true) (h : IsBools w A len cap) :
    Calls Try.prog 4 #[.int .i64 B, .int .i64 G, .int .i64 S, .slice A len cap] w fun e w' => e = .returned (.bool true) ∧ Below w.heap.size w w' := by
  obtain ⟨l, rfl, k1, k2, hr⟩ := h
  by_cases hl : B < 1 ∨ (1 ≤ B ∧ 16 < B) ∨ (1 ≤ B ∧ B ≤ 16 ∧ G < 1) ∨ (1 ≤ B ∧ B ≤ 16 ∧ 1 ≤ G ∧ 16 < G) ∨ (1 ≤ B ∧ B ≤ 16 ∧ 1 ≤ G ∧ G ≤ 16 ∧ S < 1) ∨ (1 ≤ B ∧ B ≤ 16 ∧ 1 ≤ G ∧ G ≤ 16 ∧ 1 ≤ S ∧ 1073741824 < S) ∨ (1 ≤ B ∧ B ≤ 16 ∧ 1 ≤ G ∧ G ≤ 16 ∧ 1 ≤ S ∧ S ≤ 1073741824 ∧ 100 < l.length)
  · exact MonitorHeals_far B G S A l.length cap w (by unfold maxLen at k2; omega) hl
  · exact MonitorHeals_near B G S A cap l w (by omega) (by omega) (by omega) hr (by omega)
end Go.Proofs.Ytnjmnklkbldmgaa

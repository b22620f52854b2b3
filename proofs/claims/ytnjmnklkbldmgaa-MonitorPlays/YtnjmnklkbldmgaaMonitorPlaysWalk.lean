/- The law MonitorPlays, walked. Condition: the slice reads as its ints. -/
import Derived.Test.YtnjmnklkbldmgaaMonState
import Derived.Test.YtnjmnklkbldmgaaIntRows
namespace Go.Proofs.Ytnjmnklkbldmgaa
open Go.RowKit
set_option linter.unusedVariables false

theorem MonitorPlays_far (B G S : Int) (A : Option Addr) (len c : Nat) (w : World) (hl : 200 < len) (hm : len ≤ 9223372036854775807) :
    Calls Try.prog 3 #[.int .i64 B, .int .i64 G, .int .i64 S, .slice A len c] w fun e w' => e = .returned (.bool true) ∧ Below w.heap.size w w' := by
  go_enter Try.func3, Try.ntmps3
  go_wp2_with fail
  refine (alive_calls w).mono ?_
  rintro e w' ⟨rfl, hb⟩
  go_wp2
  go_ret
  exact ⟨rfl, hb⟩
/-- k of the ints gone through -/
def PRel (w : World) (l : List Int) (p : Nat) (i : Value) (v : World) : Prop := ∃ (k : Nat) (m : Mo), k ≤ l.length ∧ i = .int .i64 k ∧ m.run ≤ k ∧ Mt w v p m m
theorem pass_run (m : Mo) (n : Int) (h : 0 ≤ m.run) : (m.pass n).run ≤ m.run := by
  unfold Mo.pass
  split
  · exact h
  · exact Int.le_refl _
theorem note_run_le (m : Mo) (ok : Bool) (h : 0 ≤ m.run) : (m.note ok).run ≤ m.run + 1 := by
  rw [(Mo.note_run m ok).1]
  split <;> omega
set_option maxHeartbeats 1000000 in
theorem MonitorPlays_near (B G S : Int) (A : Option Addr) (c : Nat) (l : List Int) (w : World) (hr : RdI w A l) (hl : l.length ≤ 200) :
    Calls Try.prog 3 #[.int .i64 B, .int .i64 G, .int .i64 S, .slice A l.length c] w fun e w' => e = .returned (.bool true) ∧ Below w.heap.size w w' := by
  go_enter Try.func3, Try.ntmps3
  go_wp2_with fail
  refine (alive_calls w).mono ?_
  rintro e W ⟨rfl, hb⟩
  obtain ⟨p, hp⟩ : ∃ p, W.heap.size = p := ⟨_, rfl⟩
  have n1 := mnew_calls B G S W
  have n3 := fun V => rnew_calls B G S V
  generalize hm0 : mnew B G S = m0 at n1 n3
  have hrun : m0.run = 0 := by rw [← hm0]; rfl
  clear hm0
  rw [hp] at n1
  have HB := Lib.hid hb
  have HP := Lib.hid hp
  clear hb hp
  go_wp2_with fail
  refine n1.mono ?_
  rintro e W1 ⟨rfl, q1, b1, z1⟩
  clear n1
  have n2 := mnew_calls 1 1 1 W1
  rw [z1] at n2
  have Q1 := Lib.hid (And.intro q1 (And.intro b1 z1))
  clear q1 b1 z1
  go_wp2_with fail
  refine n2.mono ?_
  rintro e W2 ⟨rfl, q2, b2, z2⟩
  clear n2
  have n3 := n3 W2
  rw [z2] at n3
  have Q2 := Lib.hid (And.intro q2 (And.intro b2 z2))
  clear q2 b2 z2
  go_wp2_with fail
  refine n3.mono ?_
  rintro e W3 ⟨rfl, q3, b3, z3⟩
  clear n3
  have ST := Lib.hid (show Mt w W3 p m0 m0 from by
    obtain ⟨q1, b1, z1⟩ := Q1.out
    obtain ⟨q2, b2, z2⟩ := Q2.out
    have hs := HB.out.size
    have hp := HP.out
    have o2 : Only (fun _ => False) W1 W2 := Only.of_below _ (b2.mono (by omega))
    have o3 : Only (fun _ => False) W2 W3 := Only.of_below _ (b3.mono (by omega))
    refine ⟨(q1.only o2 (fun h => h)).only o3 (fun h => h), ⟨_, q2.only o3 (fun h => h)⟩, q3, ?_, by omega, by omega⟩
    have c1 := HB.out.trans (b1.mono (by omega))
    have c2 := c1.trans (b2.mono (by omega))
    exact c2.trans (b3.mono (by omega)))
  clear Q1 Q2 HB HP q3 b3 z3
  go_wp2
  go_loopw [13] (PRel w l p) (fun i _ => l.length - (intOf i).toNat)
  case atStart => exact ⟨0, m0, Nat.zero_le _, rfl, by omega, ST.out⟩
  case round =>
    clear ST
    obtain ⟨k, m, hk, rfl, hrk, st⟩ := hrel
    by_cases hlt : k < l.length
    · have HC0 := (hr.below st.bel).at_ hlt
      obtain ⟨b, off, rfl, hbb, hc⟩ := HC0
      have HC := Lib.hid (show ∀ v, Below w.heap.size w v → v.cell? ⟨b, off + k, none⟩ = some (.int .i64 (l.getD k 0)) from fun v hv => by
        obtain ⟨b', off', hA, _, hc'⟩ := (hr.below hv).at_ hlt
        injection hA with hA
        injection hA with h1 h2
        subst h1 h2
        exact hc')
      clear hc
      generalize l.getD k 0 = x at HC
      have h0 := st.one.2.run.1
      have no := st.noteO
      clear st
      go_wp2_with fail
      refine no.mono ?_
      rintro e v1 ⟨⟨s, rfl⟩, st⟩
      clear no
      have hc := HC.out v1 st.bel
      by_cases h3 : (bits .and .i64 x 3 == 3) = true
      · have cw := st.passM (x / 4)
        have hr2 := Lib.hid (pass_run m (x / 4) h0)
        clear st
        go_wp2_with fail
        refine cw.mono ?_
        rintro e v2 ⟨rfl, st⟩
        clear cw hc
        have hc := HC.out v2 st.bel
        have cr := st.passR (x / 4)
        clear st
        generalize m.pass (x / 4) = m2 at *
        go_wp2_with fail
        refine cr.mono ?_
        rintro e v3 ⟨rfl, st⟩
        clear cr hc
        have r1 := gl_range m2.L
        have r2 := bl_range m2.L
        have r3 := st.one.2.short
        have e1 := ord_eq (a := gl m2.L) (by omega)
        have e2 := ord_eq (a := bl m2.L) (by omega)
        have s1 := st.stateM
        have s2 := st.stateR
        have sw := st.sumM
        have sr := st.sumR
        have ST := Lib.hid st
        clear st r1 r2 r3
        generalize gl m2.L = u at *
        generalize bl m2.L = t at *
        unfold cx at sw sr
        generalize m2.st = z at *
        go_wp2_with fail
        refine s1.mono ?_
        rintro e w' ⟨rfl, rfl⟩
        clear s1
        go_wp2_with fail
        refine s2.mono ?_
        rintro e w' ⟨rfl, rfl⟩
        clear s2
        go_wp2_with fail
        refine sw.mono ?_
        rintro e w' ⟨rfl, rfl⟩
        clear sw
        go_wp2_with fail
        refine sr.mono ?_
        rintro e w' ⟨rfl, j, rfl⟩
        clear sr
        go_wp2
        go_roundw
        case rel => exact ⟨k + 1, m2, by omega, by go_num, by have := hr2.out; omega, ST.out.drewN j⟩
        case measure => simp [intOf]; omega
      · have h3' : (bits .and .i64 x 3 == 3) = false := by simpa using h3
        clear h3
        obtain ⟨ok, hok⟩ : ∃ ok, (bits .and .i64 x 1 == 0) = ok := ⟨_, rfl⟩
        have cw := st.noteM ok (by omega)
        have hr2 := Lib.hid (note_run_le m ok h0)
        clear st
        go_wp2_with fail
        refine cw.mono ?_
        rintro e v2 ⟨rfl, st⟩
        clear cw hc
        have hc := HC.out v2 st.bel
        have cr := st.noteR ok (by omega)
        clear st
        generalize m.note ok = m2 at *
        go_wp2_with fail
        refine cr.mono ?_
        rintro e v3 ⟨rfl, st⟩
        clear cr hc
        have r1 := gl_range m2.L
        have r2 := bl_range m2.L
        have r3 := st.one.2.short
        have e1 := ord_eq (a := gl m2.L) (by omega)
        have e2 := ord_eq (a := bl m2.L) (by omega)
        have s1 := st.stateM
        have s2 := st.stateR
        have sw := st.sumM
        have sr := st.sumR
        have ST := Lib.hid st
        clear st r1 r2 r3
        generalize gl m2.L = u at *
        generalize bl m2.L = t at *
        unfold cx at sw sr
        generalize m2.st = z at *
        go_wp2_with fail
        refine s1.mono ?_
        rintro e w' ⟨rfl, rfl⟩
        clear s1
        go_wp2_with fail
        refine s2.mono ?_
        rintro e w' ⟨rfl, rfl⟩
        clear s2
        go_wp2_with fail
        refine sw.mono ?_
        rintro e w' ⟨rfl, rfl⟩
        clear sw
        go_wp2_with fail
        refine sr.mono ?_
        rintro e w' ⟨rfl, j, rfl⟩
        clear sr
        go_wp2
        go_roundw
        case rel => exact ⟨k + 1, m2, by omega, by go_num, by have := hr2.out; omega, ST.out.drewN j⟩
        case measure => simp [intOf]; omega
    · have FIN := Lib.hid st.bel
      clear st
      go_wp2
      go_ret
      exact ⟨rfl, FIN.out⟩
theorem MonitorPlays_walk (B G S : Int) (A : Option Addr) (len cap : Nat) (zs : List Int) (w : World) (h1 : (Lit.int .i64 B).wf = true) (h2 : (Lit.int .i64 G).wf = true) (h3 : (Lit.int .i64 S).wf = true)
    (h : (A = none ∧ len = 0 ∧ cap = 0 ∧ zs = []) ∨ ∃ x, A = some x ∧ len ≤ cap ∧ cap ≤ maxLen ∧ zs.length = cap ∧ (∀ i, i < zs.length → w.cell? (x.add i) = some (.int .i64 (zs.getD i 0))) ∧ ∀ n ∈ zs, (Lit.int .i64 n).wf = true) :
    Calls Try.prog 3 #[.int .i64 B, .int .i64 G, .int .i64 S, .slice A len cap] w fun e w' => e = .returned (.bool true) ∧ Below w.heap.size w w' := by
  obtain ⟨l, rfl, k1, k2, hr⟩ := RdI.of_row h
  by_cases hl : l.length ≤ 200
  · exact MonitorPlays_near B G S A cap l w hr hl
  · exact MonitorPlays_far B G S A l.length cap w (by omega) (by unfold maxLen at k2; omega)
end Go.Proofs.Ytnjmnklkbldmgaa

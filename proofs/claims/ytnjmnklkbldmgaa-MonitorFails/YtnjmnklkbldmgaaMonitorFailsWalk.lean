/- The law MonitorFails, walked. No condition. -/
import Derived.Test.YtnjmnklkbldmgaaMonOne
namespace Go.Proofs.Ytnjmnklkbldmgaa
open Go.RowKit
set_option linter.unusedVariables false

theorem bl_app (a b : List Bool) : bl (a ++ b) = bl a + bl b := by unfold bl; rw [List.map_append, bs_app]
theorem bl_good (g : Nat) : bl (List.replicate g true) = 0 := by
  induction g with
  | zero => rfl
  | succ g ih =>
    rw [List.replicate_succ]
    show bl ([true] ++ List.replicate g true) = 0
    rw [bl_app, ih]
    rfl
theorem bl_bad (g : Nat) : bl (List.replicate g false) = g := by
  induction g with
  | zero => rfl
  | succ g ih =>
    rw [List.replicate_succ]
    show bl ([false] ++ List.replicate g false) = _
    rw [bl_app, ih, show bl [false] = 1 from rfl]
    omega
/-- what a line is after j bad events -/
def wst (B : Int) (j : Nat) : Int := if B ≤ j then 2 else if B ≤ 2 * (j : Int) then 1 else 0
theorem wst_cases (B : Int) (j : Nat) : (B ≤ j ∧ wst B j = 2) ∨ (¬ B ≤ j ∧ B ≤ 2 * (j : Int) ∧ wst B j = 1) ∨ (¬ B ≤ j ∧ ¬ B ≤ 2 * (j : Int) ∧ wst B j = 0) := by
  unfold wst
  by_cases q1 : B ≤ j
  · exact .inl ⟨q1, if_pos q1⟩
  · by_cases q2 : B ≤ 2 * (j : Int)
    · exact .inr (.inl ⟨q1, q2, by rw [if_neg q1, if_pos q2]⟩)
    · exact .inr (.inr ⟨q1, q2, by rw [if_neg q1, if_neg q2]⟩)
/-- g good events, then j bad ones -/
structure Fa (m : Mo) (B : Int) (g j : Nat) : Prop where
  bad : m.bad = B
  good : m.good = 16
  st : m.st = wst B j
  L : m.L = List.replicate g true ++ List.replicate j false
  run : m.run ≤ 16
theorem Fa.bads {m : Mo} {B : Int} {g j : Nat} (h : Fa m B g j) : bl m.L = j := by rw [h.L, bl_app, bl_good, bl_bad]; omega
theorem Fa.goods {m : Mo} {B : Int} {g j : Nat} (h : Fa m B g j) : gl m.L = g := by
  have h1 := gl_bl m.L
  rw [h.bads] at h1
  have h2 : m.L.length = g + j := by rw [h.L]; simp
  omega
theorem Fa.start (B : Int) (hB : 1 ≤ B ∧ B ≤ 16) : Fa (mnew B 16 1073741824) B 0 0 :=
  ⟨by show min (max B 1) 16 = B; omega, rfl, by show (0 : Int) = wst B 0; unfold wst; rw [if_neg (by omega), if_neg (by omega)], rfl, by show (0 : Int) ≤ 16; omega⟩
theorem nx_short {L : List Bool} (h : L.length < 16) (ok : Bool) : nx 16 L ok = L ++ [ok] := by unfold nx; rw [if_neg (by omega)]
theorem Fa.good_step {m : Mo} {B : Int} {g : Nat} (h : Fa m B g 0) (hB : 1 ≤ B) (hg : g < 16) (hr : m.run < 16) : Fa (m.note true) B (g + 1) 0 := by
  have e : (m.hear true).L = List.replicate (g + 1) true ++ List.replicate 0 false := by
    show nx 16 m.L true = _
    rw [nx_short (by rw [h.L]; simp; omega), h.L]
    simp [List.replicate_succ']
  have hs : m.st = 0 := by rw [h.st]; unfold wst; rw [if_neg (by omega), if_neg (by omega)]
  have hb : bl (m.hear true).L = 0 := by rw [e, bl_app, bl_good, bl_bad]; rfl
  have hn : m.note true = m.hear true := by
    unfold Mo.note Mo.judge
    have h1 : (m.hear true).st = 0 := hs
    have h2 : (m.hear true).bad = B := h.bad
    rw [if_neg (fun k => k.1 h1), if_neg (by rw [h2, hb]; omega), if_neg (by rw [h2, hb]; omega)]
  rw [hn]
  exact ⟨h.bad, h.good, h.st, e, by show m.run + 1 ≤ 16; omega⟩
theorem Fa.bad_step {m : Mo} {B : Int} {g j : Nat} (h : Fa m B g j) (hB : 1 ≤ B) (hg : g + j < 16) : Fa (m.note false) B g (j + 1) := by
  have e : (m.hear false).L = List.replicate g true ++ List.replicate (j + 1) false := by
    show nx 16 m.L false = _
    rw [nx_short (by rw [h.L]; simp; omega), h.L]
    simp [List.replicate_succ']
  have hb : bl (m.hear false).L = j + 1 := by rw [e, bl_app, bl_good, bl_bad]; omega
  have h2 : (m.hear false).bad = B := h.bad
  have h3 : (m.hear false).good = 16 := h.good
  have h4 : (m.hear false).st = wst B j := h.st
  have h5 : (m.hear false).run = 0 := rfl
  obtain ⟨r1, r2, r3, _⟩ := Mo.note_run m false
  refine ⟨r3.trans h.bad, r2.trans h.good, ?_, ?_, by rw [r1]; show (0 : Int) ≤ 16; omega⟩
  · have hst : (m.note false).st = if B ≤ (j : Int) + 1 then 2 else if wst B j = 0 ∧ B ≤ 2 * ((j : Int) + 1) then 1 else wst B j := by
      unfold Mo.note Mo.judge
      rw [h2, h3, h4, h5, hb, if_neg (by omega)]
      split
      · rfl
      · split
        · rfl
        · exact h4
    rw [hst]
    rcases wst_cases B j with ⟨q1, q2⟩ | ⟨q1, q2, q3⟩ | ⟨q1, q2, q3⟩
    · rw [q2]
      unfold wst
      rw [if_pos (by omega), if_pos (by omega)]
    · rw [q3]
      unfold wst
      by_cases q4 : B ≤ (j : Int) + 1
      · rw [if_pos q4, if_pos (by omega)]
      · rw [if_neg q4, if_neg (by omega), if_neg (by omega), if_pos (by omega)]
    · rw [q3]
      unfold wst
      by_cases q4 : B ≤ (j : Int) + 1
      · rw [if_pos q4, if_pos (by omega)]
      · by_cases q5 : B ≤ 2 * ((j : Int) + 1)
        · rw [if_neg q4, if_pos ⟨rfl, q5⟩, if_neg (by omega), if_pos (by omega)]
        · rw [if_neg q4, if_neg (fun k => q5 k.2), if_neg (by omega), if_neg (by omega)]
  · unfold Mo.note Mo.judge
    rw [h2, h3, h4, h5, hb, if_neg (by omega)]
    split
    · exact e
    · split <;> exact e
set_option maxHeartbeats 400000 in
theorem MonitorFails_far (B n g : Int) (w : World) (h : B < 1 ∨ (1 ≤ B ∧ 16 < B) ∨ (1 ≤ B ∧ B ≤ 16 ∧ n < 0) ∨ (1 ≤ B ∧ B ≤ 16 ∧ 0 ≤ n ∧ 16 < n) ∨ (1 ≤ B ∧ B ≤ 16 ∧ 0 ≤ n ∧ n ≤ 16 ∧ g < 0) ∨ (1 ≤ B ∧ B ≤ 16 ∧ 0 ≤ n ∧ n ≤ 16 ∧ 0 ≤ g ∧ 16 - n < g)) :
    Calls Try.prog 5 #[.int .i64 B, .int .i64 n, .int .i64 g] w fun e w' => e = .returned (.bool true) ∧ Below w.heap.size w w' := by
  rcases h with h | ⟨h1, h⟩ | ⟨h1, h2, h⟩ | ⟨h1, h2, h3, h⟩ | ⟨h1, h2, h3, h4, h⟩ | ⟨h1, h2, h3, h4, h5, h⟩
  all_goals
    go_enter Try.func5, Try.ntmps5
    go_wp2_with fail
    refine (alive_calls w).mono ?_
    rintro e w' ⟨rfl, hb⟩
    go_wp2
    go_ret
    exact ⟨rfl, hb⟩
def F1 (w : World) (b : Nat) (B : Int) (G : Nat) (i : Value) (v : World) : Prop := ∃ (k : Nat) (m : Mo), k ≤ G ∧ i = .int .i64 k ∧ m.run = k ∧ Fa m B k 0 ∧ One w v b m
def F2 (w : World) (b : Nat) (B : Int) (G N : Nat) (i : Value) (v : World) : Prop := ∃ (k : Nat) (m : Mo), k ≤ N ∧ i = .int .i64 k ∧ Fa m B G k ∧ One w v b m
set_option maxHeartbeats 400000 in
theorem MonitorFails_near (B : Int) (N G : Nat) (w : World) (hB : 1 ≤ B ∧ B ≤ 16) (hN : N + G ≤ 16) :
    Calls Try.prog 5 #[.int .i64 B, .int .i64 (N : Int), .int .i64 (G : Int)] w fun e w' => e = .returned (.bool true) ∧ Below w.heap.size w w' := by
  have i1 : (0 : Int) ≤ (N : Int) ∧ (N : Int) ≤ 16 ∧ (0 : Int) ≤ (G : Int) ∧ (G : Int) ≤ 16 - (N : Int) := by omega
  obtain ⟨i1, i2, i3, i4⟩ := i1
  obtain ⟨j1, j2⟩ := hB
  have hB : 1 ≤ B ∧ B ≤ 16 := ⟨j1, j2⟩
  go_enter Try.func5, Try.ntmps5
  go_wp2_with fail
  refine (alive_calls w).mono ?_
  rintro e W ⟨rfl, hb⟩
  have HB := Lib.hid hb
  clear hb
  go_wp2_with fail
  refine (one_new B 16 1073741824 W).mono ?_
  rintro e V1 ⟨b, rfl, one⟩
  have ONE := Lib.hid (one.later HB.out)
  clear one HB
  go_wp2
  go_loopw [9] (F1 w b B G) (fun i _ => G - (intOf i).toNat)
  case atStart => exact ⟨0, _, Nat.zero_le _, rfl, rfl, Fa.start B hB, ONE.out⟩
  case round =>
    clear ONE
    obtain ⟨k, m, hk, rfl, hrun, fa, one⟩ := hrel
    by_cases hlt : k < G
    · have cn := one.note true (fun _ => by omega)
      have fa2 := Lib.hid (fa.good_step hB.1 (by omega) (by omega))
      have hr2 := Lib.hid (show (m.note true).run = ((k + 1 : Nat) : Int) by rw [(Mo.note_run m true).1, hrun]; rfl)
      clear one fa hrun
      go_wp2_with fail
      refine cn.mono ?_
      rintro e v1 ⟨rfl, one⟩
      have ONE := Lib.hid one
      clear one cn
      go_wp2
      go_roundw
      case rel => exact ⟨k + 1, _, by omega, by go_num, hr2.out, fa2.out, ONE.out⟩
      case measure => simp [intOf]; omega
    · obtain rfl : k = G := by omega
      have ONE := Lib.hid (And.intro one fa)
      clear one fa hrun
      go_wp2
      go_loopw [10] (F2 w b B k N) (fun i _ => N - (intOf i).toNat)
      case atStart => exact ⟨0, m, Nat.zero_le _, rfl, ONE.out.2, ONE.out.1⟩
      case round =>
        clear ONE
        obtain ⟨j, m, hj, rfl, fa, one⟩ := hrel
        by_cases hlt2 : j < N
        · have cn := one.note false (fun e => by cases e)
          have fa2 := Lib.hid (fa.bad_step hB.1 (by omega))
          clear one fa
          go_wp2_with fail
          refine cn.mono ?_
          rintro e v1 ⟨rfl, one⟩
          have ONE := Lib.hid one
          clear one cn
          go_wp2
          go_roundw
          case rel => exact ⟨j + 1, _, by omega, by go_num, fa2.out, ONE.out⟩
          case measure => simp [intOf]; omega
        · obtain rfl : j = N := by omega
          have FIN := Lib.hid one.bel
          have cs := one.state
          have cm := one.sum
          have e1 := ord_eq (a := (k : Int)) (by omega)
          have e2 := ord_eq (a := (j : Int)) (by omega)
          have co := fun w => of_calls (k : Int) (j : Int) w
          rw [cl_of (by omega) (by omega), cl_of (by omega) (by omega)] at co
          rw [fa.bads, fa.goods] at cm
          rw [fa.st] at cs
          unfold cx at cm co
          clear one fa
          have hw := wst_cases B j
          have hq : (B + 1).tdiv 2 ≤ (j : Int) ↔ B ≤ 2 * (j : Int) := by
            rw [Int.tdiv_eq_ediv_of_nonneg (by omega)]
            omega
          generalize fl (k : Int) = x1 at *
          generalize fl (j : Int) = x2 at *
          obtain ⟨st, hst⟩ : ∃ st, wst B j = st := ⟨_, rfl⟩
          rw [hst] at cs hw
          clear hst
          rcases hw with ⟨q1, rfl⟩ | ⟨q1, q2, rfl⟩ | ⟨q1, q2, rfl⟩
          · have q4 : (B + 1).tdiv 2 ≤ (j : Int) := hq.2 (by omega)
            clear hq
            go_wp2_with fail
            refine cs.mono ?_
            rintro e w' ⟨rfl, rfl⟩
            go_wp2_with fail
            refine cm.mono ?_
            rintro e w' ⟨rfl, rfl⟩
            go_wp2_with fail
            refine (co _).mono ?_
            rintro e w' ⟨rfl, rfl⟩
            go_wp2
            go_ret
            exact ⟨rfl, FIN.out⟩
          · have q4 : (B + 1).tdiv 2 ≤ (j : Int) := hq.2 (by omega)
            clear hq
            go_wp2_with fail
            refine cs.mono ?_
            rintro e w' ⟨rfl, rfl⟩
            go_wp2_with fail
            refine cm.mono ?_
            rintro e w' ⟨rfl, rfl⟩
            go_wp2_with fail
            refine (co _).mono ?_
            rintro e w' ⟨rfl, rfl⟩
            go_wp2
            go_ret
            exact ⟨rfl, FIN.out⟩
          · have q4 : ¬ (B + 1).tdiv 2 ≤ (j : Int) := fun e => q2 (hq.1 e)
            clear hq
            go_wp2_with fail
            refine cs.mono ?_
            rintro e w' ⟨rfl, rfl⟩
            go_wp2_with fail
            refine cm.mono ?_
            rintro e w' ⟨rfl, rfl⟩
            go_wp2_with fail
            refine (co _).mono ?_
            rintro e w' ⟨rfl, rfl⟩
            go_wp2
            go_ret
            exact ⟨rfl, FIN.out⟩
theorem MonitorFails_walk (B n g : Int) (h1 : (Lit.int .i64 B).wf = true) (h2 : (Lit.int .i64 n).wf = true) (h3 : (Lit.int .i64 g).wf = true) (w : World) :
    Calls Try.prog 5 #[.int .i64 B, .int .i64 n, .int .i64 g] w fun e w' => e = .returned (.bool true) ∧ Below w.heap.size w w' := by
  by_cases hl : B < 1 ∨ (1 ≤ B ∧ 16 < B) ∨ (1 ≤ B ∧ B ≤ 16 ∧ n < 0) ∨ (1 ≤ B ∧ B ≤ 16 ∧ 0 ≤ n ∧ 16 < n) ∨ (1 ≤ B ∧ B ≤ 16 ∧ 0 ≤ n ∧ n ≤ 16 ∧ g < 0) ∨ (1 ≤ B ∧ B ≤ 16 ∧ 0 ≤ n ∧ n ≤ 16 ∧ 0 ≤ g ∧ 16 - n < g)
  · exact MonitorFails_far B n g w hl
  · obtain ⟨N, rfl⟩ : ∃ N : Nat, n = (N : Int) := ⟨n.toNat, by omega⟩
    obtain ⟨G, rfl⟩ : ∃ G : Nat, g = (G : Int) := ⟨g.toNat, by omega⟩
    exact MonitorFails_near B N G w (by omega) (by omega)
end Go.Proofs.Ytnjmnklkbldmgaa

/- The law TallyLasts, walked. Condition: the slice reads as its bools. -/
import Derived.Test.YtlkalgjecfhgdaaTalState
import Derived.Test.YtlkalgjecfhgdaaBoolRows
namespace Go.Proofs.Ytlkalgjecfhgdaa
open Go.RowKit
set_option linter.unusedVariables false

theorem TallyLasts_far (n : Int) (A : Option Addr) (len c : Nat) (w : World) (h : n < 1 ∨ (1 ≤ n ∧ 1000 < n) ∨ (1 ≤ n ∧ n ≤ 1000 ∧ 200 < len)) (hm : len ≤ 9223372036854775807) :
    Calls Try.prog 4 #[.int .i64 n, .slice A len c] w fun e w' => e = .returned (.bool true) ∧ Below w.heap.size w w' := by
  rcases h with h | ⟨h, h1⟩ | ⟨h, h1, h2⟩
  all_goals
    go_enter Try.func4, Try.ntmps4
    go_wp2_with fail
    refine (alive_calls w).mono ?_
    rintro e w' ⟨rfl, hb⟩
    go_wp2
    go_ret
    exact ⟨rfl, hb⟩
/-- the last N events -/
def lst (N : Nat) (l : List Bool) : List Bool := l.drop (l.length - N)
theorem lst_length (N : Nat) (l : List Bool) : (lst N l).length = min N l.length := by unfold lst; simp; omega
theorem lst_step (N : Nat) (l : List Bool) (x : Bool) : nx N (lst N l) x = lst N (l ++ [x]) := by
  have hl := lst_length N l
  unfold nx
  rw [hl]
  by_cases h : N ≤ l.length
  · rw [if_pos (by omega)]
    unfold lst
    rw [← List.drop_append_of_le_length (by omega), List.drop_drop, List.length_append]
    congr 1
    simp
    omega
  · rw [if_neg (by omega)]
    unfold lst
    rw [show l.length - N = 0 by omega, show (l ++ [x]).length - N = 0 by simp; omega]
    rfl
theorem lst_take {N : Nat} {l : List Bool} {k : Nat} (hk : k < l.length) : nx N (lst N (l.take k)) (l.getD k false) = lst N (l.take (k + 1)) := by
  rw [lst_step, List.take_succ_eq_append_getElem hk]
  simp [hk]
theorem drop_step {l : List Bool} {j : Nat} (hj : j < l.length) : l.drop (l.length - (j + 1)) = l.getD (l.length - 1 - j) false :: l.drop (l.length - j) := by
  have h : l.length - (j + 1) < l.length := by omega
  rw [List.drop_eq_getElem_cons h]
  congr 1
  · simp [show l.length - 1 - j = l.length - (j + 1) by omega, h]
  · congr 1; omega
theorem gl_cons (x : Bool) (l : List Bool) : gl (x :: l) = (if x then 1 else 0) + gl l := by
  unfold gl
  rw [List.map_cons, gs_cons]
  cases x <;> rfl
theorem bl_cons (x : Bool) (l : List Bool) : bl (x :: l) = (if x then 0 else 1) + bl l := by
  unfold bl
  rw [List.map_cons, bs_cons]
  cases x <;> rfl

/-- k of the events noted -/
def NRel (w : World) (l : List Bool) (p N : Nat) (i : Value) (v : World) : Prop := ∃ k : Nat, k ≤ l.length ∧ i = .int .i64 k ∧ PW v p N (rep N (lst N (l.take k))) ∧ Below w.heap.size w v
/-- j of the events counted, from the last on -/
def LRel (l : List Bool) (N : Nat) (g d i : Value) : Prop := ∃ j : Nat, j ≤ l.length ∧ j ≤ N ∧ g = .int .i64 (gl (l.drop (l.length - j))) ∧ d = .int .i64 (bl (l.drop (l.length - j))) ∧ i = .int .i64 ((l.length : Int) - 1 - (j : Int))
set_option maxHeartbeats 1000000 in
theorem TallyLasts_near (N : Nat) (A : Option Addr) (c : Nat) (l : List Bool) (w : World) (hr : RdB w A l) (hN : 1 ≤ N ∧ N ≤ 1000) (hl : l.length ≤ 200) :
    Calls Try.prog 4 #[.int .i64 (N : Int), .slice A l.length c] w fun e w' => e = .returned (.bool true) ∧ Below w.heap.size w w' := by
  go_enter Try.func4, Try.ntmps4
  go_wp2_with fail
  refine (alive_calls w).mono ?_
  rintro e W ⟨rfl, hb⟩
  have hNe : siz (N : Int) = N := by unfold siz; omega
  obtain ⟨p, hp⟩ : ∃ p, p = W.heap.size := ⟨_, rfl⟩
  have n1 := new_calls (N : Int) W
  obtain ⟨W1, hW1⟩ : ∃ V, W.alloc (.cells (zcells (N : Int)) 44) = V := ⟨_, rfl⟩
  rw [hNe, hW1, ← hp] at n1
  have pw : PW W1 p N (rep N (lst N (l.take 0))) := by
    rw [show lst N (l.take 0) = [] by simp [lst], rep_nil]
    subst hW1
    subst hp
    exact PW.empty hN.1 hN.2 (heap_alloc_new W _)
  have bel : Below w.heap.size w W1 := by rw [← hW1]; exact hb.alloc hb.size _
  have hbase : w.heap.size ≤ p := by rw [hp]; exact hb.size
  have ST := Lib.hid (And.intro pw bel)
  clear hp hW1 pw bel hNe hb
  go_wp2_with fail
  refine n1.mono ?_
  rintro e w' ⟨rfl, rfl⟩
  clear n1
  go_wp2
  go_loopw [7] (NRel w l p N) (fun i _ => l.length - (intOf i).toNat)
  case atStart => exact ⟨0, Nat.zero_le _, rfl, ST.out.1, ST.out.2⟩
  case round =>
    clear ST
    obtain ⟨k, hk, rfl, pw, bel⟩ := hrel
    by_cases hlt : k < l.length
    · obtain ⟨b, off, rfl, hbb, hc⟩ := (hr.below bel).at_ hlt
      have hs := lst_take (N := N) hlt
      have hll : (lst N (l.take k)).length ≤ N := by rw [lst_length]; omega
      generalize l.getD k false = x at hc hs
      obtain ⟨old, q, h1, h2⟩ := rep_step hN.1 hll x
      rw [h1] at pw
      rw [hs] at h2
      have nc := note_calls pw hN.2 x
      rw [h2] at nc
      have HB := Lib.hid bel
      clear pw bel h1 h2 hs hll
      go_wp2_with fail
      refine nc.mono ?_
      rintro e v1 ⟨rfl, pw, on⟩
      clear nc
      have FIN := Lib.hid (show PW v1 p N (rep N (lst N (l.take (k + 1)))) ∧ Below w.heap.size w v1 from ⟨pw, HB.out.trans (on.below (fun k hk => by omega) HB.out.size)⟩)
      clear pw on HB
      go_wp2
      go_roundw
      case rel => exact ⟨k + 1, by omega, by go_num, FIN.out.1, FIN.out.2⟩
      case measure => simp [intOf]; omega
    · have sc := sum_calls pw
      rw [gs_rep, bs_rep, List.take_of_length_le (by omega)] at sc
      have HB := Lib.hid bel
      have RB := Lib.hid (hr.below bel)
      clear pw bel
      go_wp2
      go_loop [8, 9, 10] (LRel l N) (fun _ _ i => (intOf i + 1).toNat)
      case atStart => exact ⟨0, Nat.zero_le _, Nat.zero_le _, by simp [gl, gs_nil], by simp [bl, bs_nil], val_int (by omega)⟩
      case round =>
        obtain ⟨j, hj1, hj2, rfl, rfl, rfl⟩ := hrel
        have hg := gl_range (l.drop (l.length - j))
        have hd := bl_range (l.drop (l.length - j))
        have hgd := gl_bl (l.drop (l.length - j))
        rw [show (l.drop (l.length - j)).length = j by simp; omega] at hg hd hgd
        by_cases hlt2 : j < l.length
        · obtain ⟨m, hm⟩ : ∃ m, l.length - 1 - j = m := ⟨_, rfl⟩
          have hmi : (l.length : Int) - 1 - (j : Int) = (m : Int) := by omega
          rw [hmi]
          by_cases hjn : j < N
          · obtain ⟨b, off, rfl, hbb, hc⟩ := RB.out.at_ (k := m) (by omega)
            have hs := drop_step hlt2
            rw [hm] at hs
            have g1 := gl_cons (l.getD m false) (l.drop (l.length - j))
            have b1 := bl_cons (l.getD m false) (l.drop (l.length - j))
            rw [← hs] at g1 b1
            generalize gl (l.drop (l.length - j)) = g at *
            generalize bl (l.drop (l.length - j)) = d at *
            generalize l.getD m false = x at hc g1 b1
            have G1 := Lib.hid g1
            have B1 := Lib.hid b1
            clear g1 b1 hs sc
            have q1 : g + d < (N : Int) := by omega
            have q2 : (m : Int) < (l.length : Int) := by omega
            have HM := Lib.hid hmi
            clear hmi hm hgd
            cases x
            · go_wp2
              go_round
              case rel => exact ⟨j + 1, by omega, by omega, val_int (by rw [G1.out]; simp), val_int (by rw [B1.out]; simp; omega), val_int (by have := HM.out; omega)⟩
              case measure => simp [intOf]
            · go_wp2
              go_round
              case rel => exact ⟨j + 1, by omega, by omega, val_int (by rw [G1.out]; simp; omega), val_int (by rw [B1.out]; simp), val_int (by have := HM.out; omega)⟩
              case measure => simp [intOf]
          · have hlst : lst N l = l.drop (l.length - j) := by unfold lst; rw [show j = N by omega]
            have q1 : ¬ gl (l.drop (l.length - j)) + bl (l.drop (l.length - j)) < (N : Int) := by omega
            rw [hlst] at sc
            have e1 := ord_eq (a := gl (l.drop (l.length - j))) (by omega)
            have e2 := ord_eq (a := bl (l.drop (l.length - j))) (by omega)
            have oc : ∀ w, Calls Try.prog 15 #[.int .i64 (gl (l.drop (l.length - j))), .int .i64 (bl (l.drop (l.length - j)))] w fun e w' => e = .returned (cx (gl (l.drop (l.length - j))) (bl (l.drop (l.length - j)))) ∧ w' = w := fun w => by
              have := of_calls (gl (l.drop (l.length - j))) (bl (l.drop (l.length - j))) w
              rw [cl_of (by omega) (by omega), cl_of (by omega) (by omega)] at this
              exact this
            generalize gl (l.drop (l.length - j)) = g at *
            generalize bl (l.drop (l.length - j)) = d at *
            unfold cx at sc oc
            go_wp2_with fail
            refine sc.mono ?_
            rintro e w' ⟨rfl, rfl⟩
            clear sc
            go_wp2_with fail
            refine (oc _).mono ?_
            rintro e w' ⟨rfl, rfl⟩
            go_wp2
            go_ret
            exact ⟨rfl, HB.out⟩
        · have hlst : lst N l = l.drop (l.length - j) := by unfold lst; congr 1; omega
          have hmi : (l.length : Int) - 1 - (j : Int) = -1 := by omega
          rw [hmi]
          rw [hlst] at sc
          have e1 := ord_eq (a := gl (l.drop (l.length - j))) (by omega)
          have e2 := ord_eq (a := bl (l.drop (l.length - j))) (by omega)
          have oc : ∀ w, Calls Try.prog 15 #[.int .i64 (gl (l.drop (l.length - j))), .int .i64 (bl (l.drop (l.length - j)))] w fun e w' => e = .returned (cx (gl (l.drop (l.length - j))) (bl (l.drop (l.length - j)))) ∧ w' = w := fun w => by
            have := of_calls (gl (l.drop (l.length - j))) (bl (l.drop (l.length - j))) w
            rw [cl_of (by omega) (by omega), cl_of (by omega) (by omega)] at this
            exact this
          generalize gl (l.drop (l.length - j)) = g at *
          generalize bl (l.drop (l.length - j)) = d at *
          unfold cx at sc oc
          go_wp2_with fail
          refine sc.mono ?_
          rintro e w' ⟨rfl, rfl⟩
          clear sc
          go_wp2_with fail
          refine (oc _).mono ?_
          rintro e w' ⟨rfl, rfl⟩
          go_wp2
          go_ret
          exact ⟨rfl, HB.out⟩
theorem TallyLasts_walk (n : Int) (A : Option Addr) (len cap : Nat) (w : World) (hn : (Lit.int .i64 n).wf = true) (h : IsBools w A len cap) :
    Calls Try.prog 4 #[.int .i64 n, .slice A len cap] w fun e w' => e = .returned (.bool true) ∧ Below w.heap.size w w' := by
  obtain ⟨l, rfl, h1, h2, hr⟩ := h
  by_cases hl : (1 ≤ n ∧ n ≤ 1000) ∧ l.length ≤ 200
  · obtain ⟨N, rfl⟩ := Int.eq_ofNat_of_zero_le (show 0 ≤ n by omega)
    exact TallyLasts_near N A cap l w hr (by omega) hl.2
  · exact TallyLasts_far n A l.length cap w (by omega) (by unfold maxLen at h2; omega)
end Go.Proofs.Ytlkalgjecfhgdaa

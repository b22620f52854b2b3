/- The law ReorderFar, walked. No condition. -/
import Derived.Test.YtbalhpffdgbdgaaOrdAlive
import Derived.Test.YtbalhpffdgbdgaaOrdSay
import Derived.Deep.LoopGhost
namespace Go.Proofs.Ytbalhpffdgbdgaa
open Go.RowKit
set_option linter.unusedVariables false

/-- no octets -/
def mz (_ : Nat) : List UInt8 := []
set_option maxRecDepth 20000 in
set_option maxHeartbeats 2000000 in
theorem ReorderFar_main (M W n off : Nat) (h1 : 8 ≤ M) (h2 : M ≤ 256) (h3 : 1 ≤ W) (h4 : W * 8 ≤ M) (h5 : n ≤ 600) (h6 : off < M) (w : World) :
    Calls Try.prog 5 #[.int .i64 (M : Int), .int .i64 (W : Int), .int .i64 (n : Int), .int .i64 (off : Int)] w fun e w' => e = .returned (.bool true) ∧ Below w.heap.size w w' := by
  have hcc := fun (w : World) (C : Array Value) (n c : Nat) => Lib.run_convert_bytes_const (P := Try.prog) w 28 5 C n c Try.underlying28 Try.underlying5
  have i1 : ¬ (M : Int) < 8 := by omega
  have i2 : ¬ (256 : Int) < (M : Int) := by omega
  have i3 : ¬ (W : Int) < 1 := by omega
  have i4 : ¬ (M : Int) / 8 < (W : Int) := by omega
  have i5 : ¬ (600 : Int) < (n : Int) := by omega
  have i6 : ¬ (M : Int) ≤ (off : Int) := by omega
  have hw8 : wrap64 ((M : Int) / 8) = (M : Int) / 8 := by unfold wrap64; omega
  go_enter Try.func5, Try.ntmps5
  go_wp2_with fail
  refine (alive_calls w).mono ?_
  rintro e V ⟨rfl, hb⟩
  have NW := OdOne.new hb (M : Int) (W : Int)
  rw [Od.new_eq h1 (by omega) h3 h4] at NW
  clear hb
  go_wp2_with fail
  refine NW.mono ?_
  rintro e w1 ⟨rfl, k1⟩
  clear NW
  generalize V.heap.size + 1 = p at *
  have H1 : Aside (OdOne w w1 p ⟨M, W, 0 % M, [], msgs mz 0⟩) := by rw [Nat.zero_mod]; exact k1
  clear k1 i1 i2 i3 i4 i5 hw8
  go_wp2_with fail
  go_loopg [11] n (fun kx s11 wr => ∃ i : Nat, s11 = .int .i64 (i : Int) ∧ i ≤ n ∧ n - i ≤ kx ∧ Aside (OdOne w wr p ⟨M, W, i % M, [], msgs mz i⟩))
  case atStart => exact ⟨0, rfl, by omega, by omega, H1.out⟩
  case round =>
    clear H1
    obtain ⟨i, rfl, hil, hkx, HO⟩ := hrel
    have hcap : (⟨M, W, i % M, [], msgs mz i⟩ : Od).all ≤ 999999 := by show 0 + (msgs mz i).length ≤ _; rw [msgs_len]; omega
    by_cases hlt : i < n
    · have hltz : (i : Int) < (n : Int) := by omega
      have hm : i % M < M := Nat.mod_lt _ (by omega)
      have P1 := HO.out.put hcap ((i % M : Nat) : Int) (by unfold I64; omega) none 0 [] (Rd.nil _ _) (by decide)
      obtain ⟨e2, e3⟩ := Od.put_now (s := ⟨M, W, i % M, [], msgs mz i⟩) (n := ((i % M : Nat) : Int)) (x := []) (by show 1 ≤ M; omega) h3 hm (Int.emod_eq_of_lt (by omega) (by show ((i % M : Nat) : Int) < (M : Int); omega)) rfl rfl
      rw [e2, e3] at P1
      simp only at P1
      rw [show msgs mz i ++ [[]] = msgs mz (i + 1) from msgs_next mz i, show (i % M + 1) % M = (i + 1) % M from Nat.mod_add_mod _ _ _, show ([] : List UInt8).length = 0 from rfl] at P1
      obtain ⟨r, hr⟩ : ∃ r, i % M = r := ⟨_, rfl⟩
      obtain ⟨e4, e5⟩ := mod_int (A := (i : Int)) (a := i) rfl hr
      rw [hr] at P1
      clear e2 e3 HO hr hcap hm
      go_wp2_with fail
      refine P1.mono ?_
      rintro e w2 ⟨rfl, h2⟩
      have FIN : Aside (OdOne w w2 p ⟨M, W, (i + 1) % M, [], msgs mz (i + 1)⟩) := h2
      clear P1 h2
      go_wp2
      go_roundg (n - (i + 1))
      case measure => omega
      case rel => exact ⟨i + 1, by go_num, by omega, Nat.le_refl _, FIN⟩
    · have hltz : ¬ (i : Int) < (n : Int) := by omega
      obtain rfl : i = n := by omega
      have hlt2 : (i + off) % M < M := Nat.mod_lt _ (by omega)
      obtain ⟨e2, e3⟩ := Od.put_off (x := [120]) (st := i) (r := msgs mz i) h1 h3 h6
      have LP := Lib.hid (fun v (hv : OdOne w v p ⟨M, W, i % M, [], msgs mz i⟩) => (hv.beside (laidM_below v [120])).put hcap (((i + off) % M : Nat) : Int) (by unfold I64; omega) (some ⟨v.heap.size, 0, none⟩) 1 [120] (laidM_rd v [120]) (by decide))
      rw [e2] at LP
      have P1 := LP.out _ HO.out
      obtain ⟨r, hr⟩ : ∃ r, (i + off) % M = r := ⟨_, rfl⟩
      obtain ⟨e4, e5⟩ := mod_int (A := (i : Int) + (off : Int)) (a := i + off) (by omega) hr
      rw [hr] at P1 e3
      generalize (⟨M, W, i % M, [], msgs mz i⟩ : Od).put (r : Int) [120] = s2 at *
      clear HO hcap LP hr hlt2 hil hkx hlt e2
      by_cases c1 : W ≤ off
      · have c1z : (W : Int) ≤ (off : Int) := by omega
        have c2z : ((off : Int) == 0) = false := beq_eq_false_iff_ne.2 (by omega)
        rw [if_pos c1] at P1
        rw [decide_eq_false (show ¬ off < W by omega), Bool.and_false] at e3
        go_wp2_with fail
        refine P1.mono ?_
        rintro e w2 ⟨rfl, h2'⟩
        have G := h2'.gap
        rw [e3] at G
        have FI := Lib.hid h2'.bel
        clear P1 h2' e3
        go_wp2_with fail
        refine G.mono ?_
        rintro e w3 ⟨rfl, rfl⟩
        go_wp2
        go_ret
        exact ⟨rfl, FI.out⟩
      · have c1z : ¬ (W : Int) ≤ (off : Int) := by omega
        rw [if_neg c1] at P1
        rw [decide_eq_true (show off < W by omega), Bool.and_true] at e3
        by_cases c2 : off = 0
        · have c2z : ((off : Int) == 0) = true := beq_iff_eq.2 (by omega)
          rw [if_pos c2] at P1
          rw [decide_eq_false (show ¬ 0 < off by omega)] at e3
          have c3z : ¬ (W : Int) ≤ (off : Int) := by omega
          clear c2
          go_wp2_with fail
          refine P1.mono ?_
          rintro e w2 ⟨rfl, h2'⟩
          have G := h2'.gap
          rw [e3] at G
          have FI := Lib.hid h2'.bel
          clear P1 h2' e3
          go_wp2_with fail
          refine G.mono ?_
          rintro e w3 ⟨rfl, rfl⟩
          go_wp2
          go_ret
          exact ⟨rfl, FI.out⟩
        · have c2z : ((off : Int) == 0) = false := beq_eq_false_iff_ne.2 (by omega)
          rw [if_neg c2] at P1
          rw [decide_eq_true (show 0 < off by omega)] at e3
          go_wp2_with fail
          refine P1.mono ?_
          rintro e w2 ⟨rfl, h2'⟩
          have G := h2'.gap
          rw [e3] at G
          have FI := Lib.hid h2'.bel
          clear P1 h2' e3
          go_wp2_with fail
          refine G.mono ?_
          rintro e w3 ⟨rfl, rfl⟩
          go_wp2
          go_ret
          exact ⟨rfl, FI.out⟩
set_option maxHeartbeats 4000000 in
theorem ReorderFar_far (M W n off : Int) (hM : I64 M) (h : M < 8 ∨ (8 ≤ M ∧ 256 < M) ∨ (8 ≤ M ∧ M ≤ 256 ∧ W < 1) ∨ (8 ≤ M ∧ M ≤ 256 ∧ 1 ≤ W ∧ M / 8 < W) ∨ (8 ≤ M ∧ M ≤ 256 ∧ 1 ≤ W ∧ W ≤ M / 8 ∧ n < 0) ∨ (8 ≤ M ∧ M ≤ 256 ∧ 1 ≤ W ∧ W ≤ M / 8 ∧ 0 ≤ n ∧ 600 < n) ∨ (8 ≤ M ∧ M ≤ 256 ∧ 1 ≤ W ∧ W ≤ M / 8 ∧ 0 ≤ n ∧ n ≤ 600 ∧ off < 0) ∨ (8 ≤ M ∧ M ≤ 256 ∧ 1 ≤ W ∧ W ≤ M / 8 ∧ 0 ≤ n ∧ n ≤ 600 ∧ 0 ≤ off ∧ M ≤ off)) (w : World) :
    Calls Try.prog 5 #[.int .i64 M, .int .i64 W, .int .i64 n, .int .i64 off] w fun e w' => e = .returned (.bool true) ∧ Below w.heap.size w w' := by
  rcases h with h1 | ⟨h1, h2⟩ | ⟨h1, h2, h3⟩ | ⟨h1, h2, h3, h4⟩ | ⟨h1, h2, h3, h4, h5⟩ | ⟨h1, h2, h3, h4, h5, h6⟩ | ⟨h1, h2, h3, h4, h5, h6, h7⟩ | ⟨h1, h2, h3, h4, h5, h6, h7, h8⟩
  all_goals
    go_enter Try.func5, Try.ntmps5
    go_wp2_with fail
    refine (alive_calls w).mono ?_
    rintro e W ⟨rfl, hb⟩
    try have q1 : ¬ M < 8 := by omega
    try have q2 : M.tdiv 8 = M / 8 := Int.tdiv_eq_ediv_of_nonneg (by omega)
    try have q3 : wrap64 (M / 8) = M / 8 := by unfold wrap64; omega
    go_wp2
    go_ret
    exact ⟨rfl, hb⟩
theorem ReorderFar_walk (a0 a1 a2 a3 : Int) (w0 : (Lit.int .i64 a0).wf = true) (w1 : (Lit.int .i64 a1).wf = true) (w2 : (Lit.int .i64 a2).wf = true) (w3 : (Lit.int .i64 a3).wf = true) (w : World) :
    Calls Try.prog 5 #[.int .i64 a0, .int .i64 a1, .int .i64 a2, .int .i64 a3] w fun e w' => e = .returned (.bool true) ∧ Below w.heap.size w w' := by
  by_cases h : 8 ≤ a0 ∧ a0 ≤ 256 ∧ 1 ≤ a1 ∧ a1 ≤ a0 / 8 ∧ 0 ≤ a2 ∧ a2 ≤ 600 ∧ 0 ≤ a3 ∧ a3 < a0
  · obtain ⟨h1, h2, h3, h4, h5, h6, h7, h8⟩ := h
    obtain ⟨M, rfl⟩ : ∃ n : Nat, a0 = n := ⟨a0.toNat, by omega⟩
    obtain ⟨W, rfl⟩ : ∃ n : Nat, a1 = n := ⟨a1.toNat, by omega⟩
    obtain ⟨n, rfl⟩ : ∃ m : Nat, a2 = m := ⟨a2.toNat, by omega⟩
    obtain ⟨off, rfl⟩ : ∃ m : Nat, a3 = m := ⟨a3.toNat, by omega⟩
    exact ReorderFar_main M W n off (by omega) (by omega) (by omega) (by omega) (by omega) (by omega) w
  · exact ReorderFar_far a0 a1 a2 a3 (bounds_i64 w0) (by omega) w
end Go.Proofs.Ytbalhpffdgbdgaa

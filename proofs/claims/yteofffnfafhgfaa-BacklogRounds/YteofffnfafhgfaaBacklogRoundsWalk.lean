/- The law BacklogRounds, walked. Condition: the slice reads as its numbers. -/
import Derived.Test.YteofffnfafhgfaaLogLine
import Derived.Test.YteofffnfafhgfaaIntRows
import Derived.Test.YteofffnfafhgfaaI64And
import Derived.Deep.LoopGhost
namespace Go.Proofs.Yteofffnfafhgfaa
open Go.RowKit
set_option linter.unusedVariables false

theorem mod_at {M f d i : Nat} (h : f + d = i) : (f % M + d) % M = i % M := by rw [Nat.mod_add_mod, h]
theorem mod_int {A : Int} {a M r : Nat} (h : A = (a : Int)) (hr : a % M = r) : A.tmod (M : Int) = (r : Int) ∧ A % (M : Int) = (r : Int) := by
  subst h hr
  rw [Int.tmod_eq_emod_of_nonneg (by omega), Int.natCast_emod]
  exact ⟨rfl, rfl⟩
set_option maxRecDepth 20000 in
set_option maxHeartbeats 2000000 in
theorem BacklogRounds_main (M W n : Nat) (A : Option Addr) (cA : Nat) (ts : List Int) (h1 : 8 ≤ M) (h2 : M ≤ 128) (h3 : 1 ≤ W) (h4 : W * 8 ≤ M) (h5 : n ≤ 300) (h6 : n ≤ ts.length) (h7 : ts.length ≤ 9223372036854775807) (w : World) (hr : RdI w A ts) :
    Calls Try.prog 4 #[.int .i64 (M : Int), .int .i64 (W : Int), .int .i64 (n : Int), .slice A ts.length cA] w fun e w' => e = .returned (.bool true) ∧ Below w.heap.size w w' := by
  have HR := Lib.hid hr
  obtain ⟨len, hlen⟩ : ∃ n, n = ts.length := ⟨_, rfl⟩
  rw [← hlen] at h6 h7 ⊢
  have HL := Lib.hid hlen
  clear hr hlen
  have NM := fun v => num_calls 0 v
  have i1 : ¬ (M : Int) < 8 := by omega
  have i2 : ¬ (128 : Int) < (M : Int) := by omega
  have i3 : ¬ (W : Int) < 1 := by omega
  have i4 : ¬ (M : Int) / 8 < (W : Int) := by omega
  have i5 : ¬ (300 : Int) < (n : Int) := by omega
  have i6 : ¬ (len : Int) < (n : Int) := by omega
  have hw8 : wrap64 ((M : Int) / 8) = (M : Int) / 8 := by unfold wrap64; omega
  go_enter Try.func4, Try.ntmps4
  go_wp2_with fail
  refine (alive_calls w).mono ?_
  rintro e V ⟨rfl, hb⟩
  have NW := lgNew_calls M W 1 V
  have H1 : Aside (LgS w (V.alloc (.cells (lgc (Lg.new M W 1).m (Lg.new M W 1).W (Lg.new M W 1).Q 0 0 none 0 0) 53)) V.heap.size M W 0 0 none) := LgS.fresh hb h1 (by omega) h3 h4
  clear hb
  go_wp2_with fail
  refine NW.mono ?_
  rintro e w1 ⟨rfl, rfl⟩
  clear NW
  generalize V.alloc (.cells (lgc (Lg.new M W 1).m (Lg.new M W 1).W (Lg.new M W 1).Q 0 0 none 0 0) 53) = w1 at *
  generalize V.heap.size = p at *
  clear i1 i2 i3 i4 i6 hw8
  go_wp2_with fail
  go_loopg [11, 12, 13] n (fun kx s11 s12 s13 wr => ∃ i f : Nat, s11 = .int .i64 (f : Int) ∧ s12 = .int .i64 (i : Int) ∧ s13 = .int .i64 (i : Int) ∧ i ≤ n ∧ n - i ≤ kx ∧ f ≤ i ∧ i - f ≤ W ∧ Aside (LgS w wr p M W (f % M) (i - f) none))
  case atStart => exact ⟨0, 0, rfl, rfl, rfl, by omega, by omega, by omega, by omega, by rw [Nat.zero_mod]; exact H1.out⟩
  case round =>
    clear H1
    obtain ⟨i, f, rfl, rfl, rfl, hil, hkx, hfi, hfW, HO⟩ := hrel
    by_cases hlt : i < n
    · have hltz : (i : Int) < (n : Int) := by omega
      obtain ⟨x, hx⟩ : ∃ x : UInt8, (x.toNat : Int) = (i : Int) % 256 := ⟨UInt8.ofNat i, by simp⟩
      have L1 : ∀ v : World, laid v [x] = v.alloc (.cells #[.int .u8 ((i : Int) % 256)] 5) := fun v => by unfold laid bv; simp [hx]
      obtain ⟨b3, o3, rfl, hb3, k0⟩ := RdI.at_ (k := i) HR.out (by rw [← HL.out]; omega)
      obtain ⟨z, hz, hz7⟩ : ∃ z : Nat, bits .and .i64 (ts.getD i 0) 7 = (z : Int) ∧ z ≤ 7 := by
        rw [i64_and7]
        exact ⟨(ts.getD i 0 % 8).toNat, by omega, by omega⟩
      generalize ts.getD i 0 = t0 at *
      have P1 := (HO.out.beside (laid_below wr [x])).add (some ⟨wr.heap.size, 0, none⟩) 1 [x] (laid_rd wr [x]) (by simp)
      rw [L1 wr] at P1
      have LL := Lib.hid L1
      clear HO hx L1
      by_cases hn : i - f < W
      · go_wp2_with fail
        refine P1.mono ?_
        rintro e w2 ⟨rfl, h2'⟩
        have P2 := h2'.next (by omega)
        obtain ⟨r, hr⟩ : ∃ r, i % M = r := ⟨_, rfl⟩
        obtain ⟨e1, e2⟩ := mod_int (A := (i : Int)) (a := i) rfl hr
        rw [mod_at (show f + (i - f) = i by omega), hr, show i - f + 1 = i + 1 - f by omega] at P2
        clear hr
        clear P1 h2'
        go_wp2_with fail
        refine P2.mono ?_
        rintro e w3 ⟨A3, c3, rfl, rd3, h3⟩
        clear P2
        have q1 : (convert 28 9 (.slice A3 1 c3)).run Try.prog w3 = .ok (.string ⟨#[x]⟩) w3 := run_conv w3 A3 c3 [x] rd3
        have q2 := run_conv (laid w3 [x]) A3 c3 [x] (rd3.below (laid_below w3 [x]))
        have q3 := run_conv (laid w3 [x]) (some ⟨w3.heap.size, 0, none⟩) 1 [x] (laid_rd w3 [x])
        have h3 := h3.beside (laid_below w3 [x])
        rw [LL.out w3] at q2 q3 h3
        have q2' : (convert 28 9 (.slice A3 1 c3)).run Try.prog (w3.alloc (.cells #[.int .u8 ((i : Int) % 256)] 5)) = .ok (.string ⟨#[x]⟩) (w3.alloc (.cells #[.int .u8 ((i : Int) % 256)] 5)) := q2
        have q3' : (convert 28 9 (.slice (some ⟨w3.heap.size, 0, none⟩) 1 1)).run Try.prog (w3.alloc (.cells #[.int .u8 ((i : Int) % 256)] 5)) = .ok (.string ⟨#[x]⟩) (w3.alloc (.cells #[.int .u8 ((i : Int) % 256)] 5)) := q3
        have b1 : decide ((i : Int) - (f : Int) < (W : Int)) = true := decide_eq_true (by omega)
        have k3 := (h3.bel.cell (p := ⟨b3, o3 + i, none⟩) hb3).trans k0
        clear rd3 q2 q3
        go_wp2_with fail
        refine (NM _).mono ?_
        rintro e v9 ⟨rfl, rfl⟩
        by_cases hc : f + z ≤ i + 1
        · have hcz : ¬ (i : Int) + 1 < (f : Int) + (z : Int) := by omega
          have P4 := h3.ack (d := z) (by omega) (by omega)
          obtain ⟨t, ht⟩ : ∃ t, (f + z) % M = t := ⟨_, rfl⟩
          rw [show (f % M + z) % M = t by rw [← ht]; exact mod_at (by omega), show i + 1 - f - z = i + 1 - (f + z) by omega] at P4
          obtain ⟨e5, e6⟩ := mod_int (A := ((f : Int) + (z : Int))) (a := (f + z)) (by omega) ht
          have HT := Lib.hid ht
          clear h3 ht
          go_wp2_with fail
          refine P4.mono ?_
          rintro e w5 ⟨rfl, h5'⟩
          clear P4 e5 e6
          have c5 := h5'.out
          have eT : ((i + 1 - (f + z) : Nat) : Int) = (i : Int) + 1 - ((f : Int) + (z : Int)) := by omega
          clear h5'
          go_wp2_with fail
          refine c5.mono ?_
          rintro e w8 ⟨A8, c8, rfl, h8⟩
          have c6 := h8.len

          have FIN : Aside (LgS w w8 p M W ((f + z) % M) (i + 1 - (f + z)) none) := by rw [HT.out]; exact h8
          clear c5 h8
          go_wp2_with fail
          refine c6.mono ?_
          rintro e w9 ⟨rfl, rfl⟩
          clear c6
          go_wp2
          go_roundg (n - (i + 1))
          case measure => omega
          case rel => exact ⟨i + 1, (f + z), by go_num, by go_num, by go_num, by omega, by omega, by omega, by omega, FIN⟩
        · have hcz : (i : Int) + 1 < (f : Int) + (z : Int) := by omega
          have P4 := h3.ack (d := (i + 1 - f)) (by omega) (by omega)
          obtain ⟨t, ht⟩ : ∃ t, (i + 1) % M = t := ⟨_, rfl⟩
          rw [show (f % M + (i + 1 - f)) % M = t by rw [← ht]; exact mod_at (by omega), show i + 1 - f - (i + 1 - f) = i + 1 - (i + 1) by omega] at P4
          obtain ⟨e5, e6⟩ := mod_int (A := ((i : Int) + 1)) (a := (i + 1)) (by omega) ht
          have e7 : (((i + 1 - f) : Nat) : Int) = ((i : Int) + 1) - (f : Int) := by omega
          have HT := Lib.hid ht
          clear h3 ht
          go_wp2_with fail
          refine P4.mono ?_
          rintro e w5 ⟨rfl, h5'⟩
          clear P4 e5 e6
          have c5 := h5'.out
          have eT : ((i + 1 - (i + 1) : Nat) : Int) = (i : Int) + 1 - ((i : Int) + 1) := by omega
          clear h5'
          go_wp2_with fail
          refine c5.mono ?_
          rintro e w8 ⟨A8, c8, rfl, h8⟩
          have c6 := h8.len

          have FIN : Aside (LgS w w8 p M W ((i + 1) % M) (i + 1 - (i + 1)) none) := by rw [HT.out]; exact h8
          clear c5 h8
          go_wp2_with fail
          refine c6.mono ?_
          rintro e w9 ⟨rfl, rfl⟩
          clear c6
          go_wp2
          go_roundg (n - (i + 1))
          case measure => omega
          case rel => exact ⟨i + 1, (i + 1), by go_num, by go_num, by go_num, by omega, by omega, by omega, by omega, FIN⟩
      · go_wp2_with fail
        refine P1.mono ?_
        rintro e w2 ⟨rfl, h2'⟩
        have P2 := h2'.next_no (by omega)
        clear P1 h2'
        go_wp2_with fail
        refine P2.mono ?_
        rintro e w3 ⟨A3, c3, rfl, h3⟩
        clear P2
        have b1 : decide ((i : Int) - (f : Int) < (W : Int)) = false := decide_eq_false (by omega)
        have k3 := (h3.bel.cell (p := ⟨b3, o3 + i, none⟩) hb3).trans k0
        clear hn
        go_wp2_with fail
        refine (NM _).mono ?_
        rintro e v9 ⟨rfl, rfl⟩
        by_cases hc : f + z ≤ i
        · have hcz : ¬ (i : Int) < (f : Int) + (z : Int) := by omega
          have P4 := h3.ack (d := z) (by omega) (by omega)
          obtain ⟨t, ht⟩ : ∃ t, (f + z) % M = t := ⟨_, rfl⟩
          rw [show (f % M + z) % M = t by rw [← ht]; exact mod_at (by omega), show i - f - z = i - (f + z) by omega] at P4
          obtain ⟨e5, e6⟩ := mod_int (A := ((f : Int) + (z : Int))) (a := (f + z)) (by omega) ht
          have HT := Lib.hid ht
          clear h3 ht
          go_wp2_with fail
          refine P4.mono ?_
          rintro e w5 ⟨rfl, h5'⟩
          clear P4 e5 e6
          by_cases hz0 : i - (f + z) < W
          · have P6 := h5'.next (by omega)
            obtain ⟨r, hr⟩ : ∃ r, i % M = r := ⟨_, rfl⟩
            obtain ⟨e1, e2⟩ := mod_int (A := (i : Int)) (a := i) rfl hr
            rw [← HT.out, mod_at (show (f + z) + (i - (f + z)) = i by omega), hr, show i - (f + z) + 1 = i + 1 - (f + z) by omega] at P6
            have HRR := Lib.hid hr
            clear hr
            have b2 : decide ((i : Int) - ((f : Int) + (z : Int)) < (W : Int)) = true := decide_eq_true (by omega)

            clear h5'
            go_wp2_with fail
            refine P6.mono ?_
            rintro e w6 ⟨A6, c6, rfl, _, h6'⟩
            clear P6
            have c5 := h6'.out
            have eT : ((i + 1 - (f + z) : Nat) : Int) = (i : Int) + 1 - ((f : Int) + (z : Int)) := by omega
            clear h6'
            go_wp2_with fail
            refine c5.mono ?_
            rintro e w8 ⟨A8, c8, rfl, h8⟩
            have c6 := h8.len

            have FIN : Aside (LgS w w8 p M W ((f + z) % M) (i + 1 - (f + z)) none) := h8
            clear c5 h8
            go_wp2_with fail
            refine c6.mono ?_
            rintro e w9 ⟨rfl, rfl⟩
            clear c6
            go_wp2
            go_roundg (n - (i + 1))
            case measure => omega
            case rel => exact ⟨i + 1, (f + z), by go_num, by go_num, by go_num, by omega, by omega, by omega, by omega, FIN⟩
          · have P6 := h5'.next_no (by omega)
            have b2 : decide ((i : Int) - ((f : Int) + (z : Int)) < (W : Int)) = false := decide_eq_false (by omega)
            clear h5'
            go_wp2_with fail
            refine P6.mono ?_
            rintro e w6 ⟨A6, c6, rfl, h6'⟩
            have FI := Lib.hid h6'.bel
            clear P6 h6'
            go_wp2
            go_ret
            exact ⟨rfl, FI.out⟩
        · have hcz : (i : Int) < (f : Int) + (z : Int) := by omega
          have P4 := h3.ack (d := (i - f)) (by omega) (by omega)
          obtain ⟨t, ht⟩ : ∃ t, i % M = t := ⟨_, rfl⟩
          rw [show (f % M + (i - f)) % M = t by rw [← ht]; exact mod_at (by omega), show i - f - (i - f) = i - i by omega] at P4
          obtain ⟨e5, e6⟩ := mod_int (A := (i : Int)) (a := i) (by omega) ht
          have e7 : (((i - f) : Nat) : Int) = (i : Int) - (f : Int) := by omega
          have HT := Lib.hid ht
          clear h3 ht
          go_wp2_with fail
          refine P4.mono ?_
          rintro e w5 ⟨rfl, h5'⟩
          clear P4 e5 e6
          have P6 := h5'.next (by omega)
          obtain ⟨r, hr⟩ : ∃ r, i % M = r := ⟨_, rfl⟩
          obtain ⟨e1, e2⟩ := mod_int (A := (i : Int)) (a := i) rfl hr
          rw [← HT.out, mod_at (show i + (i - i) = i by omega), hr, show i - i + 1 = 1 by omega] at P6
          have HRR := Lib.hid hr
          clear hr
          have b2 : decide ((0 : Int) < (W : Int)) = true := decide_eq_true (by omega)
          have b3 : decide (0 < W) = true := decide_eq_true (by omega)
          clear h5'
          go_wp2_with fail
          refine P6.mono ?_
          rintro e w6 ⟨A6, c6, rfl, _, h6'⟩
          clear P6
          have c5 := h6'.out
          have HQ := Lib.hid (show i + 1 - i = 1 by omega)
          obtain ⟨y, hy⟩ : ∃ y : Int, (i : Int) + 1 = y := ⟨_, rfl⟩
          clear h6'
          go_wp2_with fail
          refine c5.mono ?_
          rintro e w8 ⟨A8, c8, rfl, h8⟩
          have c6 := h8.len
          have eQ : y - (i : Int) = 1 := by omega
          have y1 : 1 ≤ y := by omega
          have y2 : y ≤ 400 := by omega
          have HY := Lib.hid hy
          clear hy
          have FIN : Aside (LgS w w8 p M W (i % M) (i + 1 - i) none) := by rw [HQ.out, HRR.out]; exact h8
          clear c5 h8
          go_wp2_with fail
          refine c6.mono ?_
          rintro e w9 ⟨rfl, rfl⟩
          clear c6
          go_wp2
          go_roundg (n - (i + 1))
          case measure => omega
          case rel => exact ⟨i + 1, i, by go_num, val_int (by have := HY.out; omega), by go_num, by omega, by omega, by omega, by omega, FIN⟩
    · have hltz : ¬ (i : Int) < (n : Int) := by omega
      have FI := Lib.hid HO.out.bel
      clear HO
      go_wp2
      go_ret
      exact ⟨rfl, FI.out⟩
set_option maxRecDepth 20000 in
set_option maxHeartbeats 2000000 in
theorem BacklogRounds_far (M W n : Int) (A : Option Addr) (len cap : Nat) (hl : len ≤ 9223372036854775807) (h : M < 8 ∨ (8 ≤ M ∧ 128 < M) ∨ (8 ≤ M ∧ M ≤ 128 ∧ W < 1) ∨ (8 ≤ M ∧ M ≤ 128 ∧ 1 ≤ W ∧ M / 8 < W) ∨ (8 ≤ M ∧ M ≤ 128 ∧ 1 ≤ W ∧ W ≤ M / 8 ∧ n < 0) ∨ (8 ≤ M ∧ M ≤ 128 ∧ 1 ≤ W ∧ W ≤ M / 8 ∧ 0 ≤ n ∧ 300 < n) ∨ (8 ≤ M ∧ M ≤ 128 ∧ 1 ≤ W ∧ W ≤ M / 8 ∧ 0 ≤ n ∧ n ≤ 300 ∧ (len : Int) < n)) (w : World) :
    Calls Try.prog 4 #[.int .i64 M, .int .i64 W, .int .i64 n, .slice A len cap] w fun e w' => e = .returned (.bool true) ∧ Below w.heap.size w w' := by
  obtain ⟨q, hq⟩ : ∃ q, M / 8 = q := ⟨_, rfl⟩
  have hw : 8 ≤ M → M ≤ 128 → wrap64 q = q := fun _ _ => by unfold wrap64; omega
  have HW := Lib.hid hw
  rw [hq] at h
  clear hw
  rcases h with h1 | ⟨h1, h2⟩ | ⟨h1, h2, h3⟩ | h
  case inr.inr.inr =>
    have hw := HW.out (by omega) (by omega)
    rcases h with ⟨h1, h2, h3, h4⟩ | ⟨h1, h2, h3, h4, h5⟩ | ⟨h1, h2, h3, h4, h5, h6⟩ | ⟨h1, h2, h3, h4, h5, h6, h7⟩
    all_goals
      go_enter Try.func4, Try.ntmps4
      go_wp2_with fail
      refine (alive_calls w).mono ?_
      rintro e V ⟨rfl, hb⟩
      go_wp2
      go_ret
      exact ⟨rfl, hb⟩
  all_goals
    go_enter Try.func4, Try.ntmps4
    go_wp2_with fail
    refine (alive_calls w).mono ?_
    rintro e V ⟨rfl, hb⟩
    go_wp2
    go_ret
    exact ⟨rfl, hb⟩
theorem BacklogRounds_walk (a0 a1 a2 : Int) (a3 : Option Addr) (len3 cap3 : Nat) (z3 : List Int) (w : World) (w0 : (Lit.int .i64 a0).wf = true) (w1 : (Lit.int .i64 a1).wf = true) (w2 : (Lit.int .i64 a2).wf = true)
    (h3 : (a3 = none ∧ len3 = 0 ∧ cap3 = 0 ∧ z3 = []) ∨ ∃ x, a3 = some x ∧ len3 ≤ cap3 ∧ cap3 ≤ maxLen ∧ z3.length = cap3 ∧ (∀ i, i < z3.length → w.cell? (x.add i) = some (.int .i64 (z3.getD i 0))) ∧ ∀ n ∈ z3, (Lit.int .i64 n).wf = true) :
    Calls Try.prog 4 #[.int .i64 a0, .int .i64 a1, .int .i64 a2, .slice a3 len3 cap3] w fun e w' => e = .returned (.bool true) ∧ Below w.heap.size w w' := by
  obtain ⟨ts, rfl, hc, hm, hr⟩ := RdI.of_row h3
  have hl : ts.length ≤ 9223372036854775807 := by unfold maxLen at hm; omega
  by_cases h : 8 ≤ a0 ∧ a0 ≤ 128 ∧ 1 ≤ a1 ∧ a1 ≤ a0 / 8 ∧ 0 ≤ a2 ∧ a2 ≤ 300 ∧ a2 ≤ (ts.length : Int)
  · obtain ⟨h1, h2, h3, h4, h5, h6, h7⟩ := h
    obtain ⟨M, rfl⟩ : ∃ n : Nat, a0 = n := ⟨a0.toNat, by omega⟩
    obtain ⟨W, rfl⟩ : ∃ n : Nat, a1 = n := ⟨a1.toNat, by omega⟩
    obtain ⟨n, rfl⟩ : ∃ n : Nat, a2 = n := ⟨a2.toNat, by omega⟩
    exact BacklogRounds_main M W n a3 cap3 ts (by omega) (by omega) (by omega) (by omega) (by omega) (by omega) hl w hr
  · exact BacklogRounds_far a0 a1 a2 a3 ts.length cap3 hl (by omega) w
end Go.Proofs.Yteofffnfafhgfaa

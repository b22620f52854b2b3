/- The law BacklogClears, walked. No condition. -/
import Derived.Test.YteofffnfafhgfaaLogAlive
import Derived.Deep.LoopGhost
namespace Go.Proofs.Yteofffnfafhgfaa
open Go.RowKit
set_option linter.unusedVariables false

/-- a log modulo 128, a window of 16, a queue of 20, with k messages; all wait where z -/
def LgK (w v : World) (b k : Nat) (z : Bool) : Prop := ∃ s : Lg, LgOne w v b s ∧ s.m = 128 ∧ s.W = 16 ∧ s.Q = 20 ∧ s.l.length = k ∧ (z = true → s.n = 0)
section
variable {w v : World} {b k : Nat} {z : Bool}
theorem LgK.add (h : LgK w v b k true) (hk : k < 20) (B : Option Addr) (d : Nat) (x : List UInt8) (hr : Rd v B x) (hx : x.length ≤ 1048576) :
    Calls Try.prog 10 #[.pointer (some ⟨b, 0, none⟩), .slice B x.length d] v fun e v' => e = .returned (.int .i64 0) ∧ LgK w v' b (k + 1) true := by
  obtain ⟨s, h, h1, h2, h3, h4, h5⟩ := h
  have hf : s.full = false := by unfold Lg.full; rw [h3, h4, h5 rfl]; exact decide_eq_false (by omega)
  refine (h.add B d x hr hx).mono ?_
  rintro e v' ⟨rfl, h'⟩
  refine ⟨by unfold Lg.addE; rw [hf]; rfl, s.add x, h', ?_⟩
  unfold Lg.add
  rw [hf]
  exact ⟨h1, h2, h3, by show (s.l ++ [x]).length = _; simp [h4], h5⟩
theorem LgK.next (h : LgK w v b k z) :
    Calls Try.prog 11 #[.pointer (some ⟨b, 0, none⟩)] v fun e v' => ∃ i A n c t, e = .returned (.tuple #[.int .i64 i, .slice A n c, .bool t]) ∧ LgK w v' b k false := by
  obtain ⟨s, h, h1, h2, h3, h4, h5⟩ := h
  refine h.next.mono ?_
  rintro e v' ⟨A, c, rfl, _, h'⟩
  refine ⟨_, A, _, c, _, rfl, s.next, h', ?_⟩
  unfold Lg.next
  split <;> exact ⟨h1, h2, h3, h4, fun h => by cases h⟩
theorem LgK.clear (h : LgK w v b k z) :
    Calls Try.prog 19 #[.pointer (some ⟨b, 0, none⟩)] v fun e v' => e = .returned (.int .i64 (k : Int)) ∧ LgOne w v' b ⟨128, 16, 20, 0, 0, []⟩ := by
  obtain ⟨s, h, h1, h2, h3, h4, h5⟩ := h
  refine h.clear.mono ?_
  rintro e v' ⟨rfl, h'⟩
  unfold Lg.clear at h'
  rw [h1, h2, h3] at h'
  exact ⟨by rw [h4], h'⟩
theorem LgK.weak (h : LgK w v b k z) : LgK w v b k false := by
  obtain ⟨s, h, h1, h2, h3, h4, h5⟩ := h
  exact ⟨s, h, h1, h2, h3, h4, fun h => by cases h⟩
end
set_option maxRecDepth 20000 in
set_option maxHeartbeats 1000000 in
theorem BacklogClears_main (n out : Nat) (hn : n ≤ 20) (ho : out ≤ 16) (w : World) :
    Calls Try.prog 6 #[.int .i64 (n : Int), .int .i64 (out : Int)] w fun e w' => e = .returned (.bool true) ∧ Below w.heap.size w w' := by
  have hcc := fun (w : World) (C : Array Value) (n c : Nat) => Lib.run_convert_bytes_const (P := Try.prog) w 28 5 C n c Try.underlying28 Try.underlying5
  have NM := fun v => num_calls 0 v
  have i1 : ¬ (20 : Int) < (n : Int) := by omega
  have i2 : ¬ (16 : Int) < (out : Int) := by omega
  go_enter Try.func6, Try.ntmps6
  go_wp2_with fail
  refine (alive_calls w).mono ?_
  rintro e W ⟨rfl, hb⟩
  have NW := lgNew_calls 128 16 20 W
  have H1 : Aside (LgK w (W.alloc (.cells (lgc (Lg.new 128 16 20).m (Lg.new 128 16 20).W (Lg.new 128 16 20).Q 0 0 none 0 0) 53)) W.heap.size 0 true) := ⟨_, LgOne.fresh hb 128 16 20, rfl, rfl, rfl, rfl, fun _ => rfl⟩
  clear hb
  go_wp2_with fail
  refine NW.mono ?_
  rintro e w1 ⟨rfl, rfl⟩
  clear NW
  generalize W.alloc (.cells (lgc (Lg.new 128 16 20).m (Lg.new 128 16 20).W (Lg.new 128 16 20).Q 0 0 none 0 0) 53) = w1 at *
  generalize W.heap.size = p at *
  go_wp2_with fail
  go_loopg [7] n (fun kx s7 wr => ∃ i : Nat, s7 = .int .i64 (i : Int) ∧ i ≤ n ∧ n - i ≤ kx ∧ Aside (LgK w wr p i true))
  case atStart => exact ⟨0, rfl, by omega, by omega, H1.out⟩
  case round =>
    clear H1
    obtain ⟨i, rfl, hil, hkx, HO⟩ := hrel
    by_cases hlt : i < n
    · have hltz : (i : Int) < (n : Int) := by omega
      obtain ⟨x, hx⟩ : ∃ x : UInt8, (x.toNat : Int) = (i : Int) := ⟨UInt8.ofNat i, by simp; omega⟩
      have P1 := LgK.add (h := by
        obtain ⟨s, h, h'⟩ := HO.out
        exact ⟨s, h.beside (laid_below wr [x]), h'⟩) (by omega) (some ⟨wr.heap.size, 0, none⟩) 1 [x] (laid_rd wr [x]) (by simp)
      have e1 : laid wr [x] = wr.alloc (.cells #[.int .u8 (i : Int)] 5) := by unfold laid bv; simp [hx]
      rw [e1] at P1
      clear hx e1 HO
      go_wp2_with fail
      refine P1.mono ?_
      rintro e w2 ⟨rfl, h2⟩
      have FIN : Aside (LgK w w2 p (i + 1) true) := h2
      clear P1 h2
      go_wp2
      go_roundg (n - (i + 1))
      case measure => omega
      case rel => exact ⟨i + 1, by go_num, by omega, Nat.le_refl _, FIN⟩
    · have hltz : ¬ (i : Int) < (n : Int) := by omega
      have : i = n := by omega
      subst this
      clear hil hkx hlt
      have H2 : Aside (LgK w wr p i false) := HO.out.weak
      clear HO
      go_wp2_with fail
      go_loopg [8] out (fun kx s8 wr => ∃ j : Nat, s8 = .int .i64 (j : Int) ∧ j ≤ out ∧ out - j ≤ kx ∧ Aside (LgK w wr p i false))
      case atStart => exact ⟨0, rfl, by omega, by omega, H2⟩
      case round =>
        clear H2 hltz
        obtain ⟨j, rfl, hjl, hkx, HO⟩ := hrel
        by_cases hlt : j < out
        · have hltz : (j : Int) < (out : Int) := by omega
          have P1 := HO.out.next
          clear HO
          go_wp2_with fail
          refine P1.mono ?_
          rintro e w2 ⟨ri, rA, rn, rc, rt, rfl, h2⟩
          have FIN : Aside (LgK w w2 p i false) := h2
          clear P1 h2
          go_wp2
          go_roundg (out - (j + 1))
          case measure => omega
          case rel => exact ⟨j + 1, by go_num, by omega, Nat.le_refl _, FIN⟩
        · have hltz : ¬ (j : Int) < (out : Int) := by omega
          have P1 := HO.out.clear
          clear HO
          go_wp2_with fail
          refine P1.mono ?_
          rintro e w2 ⟨rfl, h2⟩
          clear P1
          have P2 := h2.len
          have P3 := h2.out
          clear h2
          go_wp2_with fail
          refine P2.mono ?_
          rintro e v3 ⟨rfl, rfl⟩
          go_wp2_with fail
          refine P3.mono ?_
          rintro e v3 ⟨A3, c3, rfl, h3⟩
          clear P2 P3
          have TK := h3.next
          rw [show (⟨128, 16, 20, 0, 0, []⟩ : Lg).nextX = [] from rfl, show (⟨128, 16, 20, 0, 0, []⟩ : Lg).nextN = 0 from rfl, show (⟨128, 16, 20, 0, 0, []⟩ : Lg).stop = true from rfl, show (⟨128, 16, 20, 0, 0, []⟩ : Lg).next = ⟨128, 16, 20, 0, 0, []⟩ from rfl] at TK
          clear h3
          go_wp2_with fail
          refine TK.mono ?_
          rintro e w4 ⟨A4, c4, rfl, _, h4⟩
          clear TK
          have P4 := (h4.beside (laidM_below w4 [122])).add (some ⟨w4.heap.size, 0, none⟩) 1 [122] (laidM_rd w4 [122]) (by decide)
          rw [show (⟨128, 16, 20, 0, 0, []⟩ : Lg).addE = 0 from rfl, show (⟨128, 16, 20, 0, 0, []⟩ : Lg).add [122] = ⟨128, 16, 20, 0, 0, [[122]]⟩ from rfl] at P4
          clear h4
          go_wp2_with fail
          refine P4.mono ?_
          rintro e w5 ⟨rfl, h5⟩
          clear P4
          have TK := h5.next
          rw [show (⟨128, 16, 20, 0, 0, [[122]]⟩ : Lg).nextX = [122] from rfl, show (⟨128, 16, 20, 0, 0, [[122]]⟩ : Lg).nextN = 0 from rfl, show (⟨128, 16, 20, 0, 0, [[122]]⟩ : Lg).stop = false from rfl] at TK
          clear h5
          go_wp2_with fail
          refine TK.mono ?_
          rintro e w6 ⟨A6, c6, rfl, rd, h6⟩
          have q6 : (convert 28 9 (.slice A6 1 c6)).run Try.prog w6 = .ok (.string ⟨#[122]⟩) w6 := run_conv w6 A6 c6 [122] rd
          have FI := Lib.hid h6.bel
          clear TK rd h6
          go_wp2_with fail
          refine (NM _).mono ?_
          rintro e w9 ⟨rfl, rfl⟩
          go_wp2
          go_ret
          exact ⟨rfl, FI.out⟩
theorem BacklogClears_far (n out : Int) (h : n < 0 ∨ (0 ≤ n ∧ 20 < n) ∨ (0 ≤ n ∧ n ≤ 20 ∧ out < 0) ∨ (0 ≤ n ∧ n ≤ 20 ∧ 0 ≤ out ∧ 16 < out)) (w : World) :
    Calls Try.prog 6 #[.int .i64 n, .int .i64 out] w fun e w' => e = .returned (.bool true) ∧ Below w.heap.size w w' := by
  rcases h with h1 | ⟨h1, h2⟩ | ⟨h1, h2, h3⟩ | ⟨h1, h2, h3, h4⟩
  all_goals
    go_enter Try.func6, Try.ntmps6
    go_wp2_with fail
    refine (alive_calls w).mono ?_
    rintro e W ⟨rfl, hb⟩
    go_wp2
    go_ret
    exact ⟨rfl, hb⟩
theorem BacklogClears_walk (a0 a1 : Int) (w0 : (Lit.int .i64 a0).wf = true) (w1 : (Lit.int .i64 a1).wf = true) (w : World) :
    Calls Try.prog 6 #[.int .i64 a0, .int .i64 a1] w fun e w' => e = .returned (.bool true) ∧ Below w.heap.size w w' := by
  by_cases h : 0 ≤ a0 ∧ a0 ≤ 20 ∧ 0 ≤ a1 ∧ a1 ≤ 16
  · obtain ⟨h1, h2, h3, h4⟩ := h
    obtain ⟨n, rfl⟩ : ∃ n : Nat, a0 = n := ⟨a0.toNat, by omega⟩
    obtain ⟨m, rfl⟩ : ∃ m : Nat, a1 = m := ⟨a1.toNat, by omega⟩
    exact BacklogClears_main n m (by omega) (by omega) w
  · exact BacklogClears_far a0 a1 (by omega) w
end Go.Proofs.Yteofffnfafhgfaa

/- The law ReorderClears, walked. No condition. -/
import Derived.Test.YtbalhpffdgbdgaaOrdAlive
import Derived.Test.YtbalhpffdgbdgaaOrdSay
import Derived.Deep.LoopGhost
namespace Go.Proofs.Ytbalhpffdgbdgaa
open Go.RowKit
set_option linter.unusedVariables false

/-- the message i -/
def mb (i : Nat) : List UInt8 := [UInt8.ofNat i]
theorem laid_mb (w : World) {i : Nat} (h : i < 256) : laid w (mb i) = w.alloc (.cells #[.int .u8 (i : Int)] 5) := by
  have hx : ((UInt8.ofNat i).toNat : Int) = (i : Int) := by simp; omega
  show w.alloc (.cells #[bv (UInt8.ofNat i)] 5) = _
  unfold bv
  rw [hx]
/-- behind j of the second puts -/
def Kept (w v : World) (b r j : Nat) : Prop := ∃ k, OdOne w v b ⟨128, 16, r, k, msgs mb r⟩ ∧ k.length = j ∧ ∀ p ∈ k, ∃ t : Nat, t < j ∧ p.1 = (((r + 2 + t) % 128 : Nat) : Int)
section
variable {w v : World} {b r j : Nat}
theorem Kept.beside {v' : World} (h : Kept w v b r j) (hb : Below v.heap.size v v') : Kept w v' b r j := by
  obtain ⟨k, h, h'⟩ := h
  exact ⟨k, h.beside hb, h'⟩
theorem Kept.put (h : Kept w v b r j) (hr : r ≤ 100) (hj : j < 10) (X : Option Addr) (d : Nat) (hrd : Rd v X [107]) :
    Calls Try.prog 10 #[.pointer (some ⟨b, 0, none⟩), .int .i64 (((r + 2 + j) % 128 : Nat) : Int), .slice X 1 d] v fun e v' => e = .returned (.int .i64 0) ∧ Kept w v' b r (j + 1) := by
  obtain ⟨k, h, h1, h2⟩ := h
  have hm : ((((r + 2 + j) % 128 : Nat) : Int)) % ((128 : Nat) : Int) = (((r + 2 + j) % 128 : Nat) : Int) := by omega
  obtain ⟨e1, e2⟩ := Od.put_keep (s := ⟨128, 16, r, k, msgs mb r⟩) (n := (((r + 2 + j) % 128 : Nat) : Int)) (x := [107]) (by show ((((r + 2 + j) % 128 : Nat) : Int) - (r : Int)) % ((128 : Nat) : Int) < ((16 : Nat) : Int); omega)
    (by
      show lk k _ = none
      refine lk_none_of fun p hp => ?_
      obtain ⟨t, ht, e⟩ := h2 p hp
      rw [e]
      show _ ≠ ((((r + 2 + j) % 128 : Nat) : Int)) % ((128 : Nat) : Int)
      omega)
    (by show ((((r + 2 + j) % 128 : Nat) : Int)) % ((128 : Nat) : Int) ≠ (r : Int); omega)
    (by
      show lk k _ = none
      refine lk_none_of fun p hp => ?_
      obtain ⟨t, ht, e⟩ := h2 p hp
      rw [e]
      show _ ≠ (r : Int)
      omega)
  have c := h.put (by show k.length + (msgs mb r).length ≤ 999999; rw [msgs_len]; omega) (((r + 2 + j) % 128 : Nat) : Int) (by unfold I64; omega) X d [107] hrd (by decide)
  rw [e1, e2] at c
  refine c.mono ?_
  rintro e v' ⟨rfl, h'⟩
  refine ⟨rfl, _, h', by simp [h1], fun p hp => ?_⟩
  rcases List.mem_append.1 hp with hp | hp
  · obtain ⟨t, ht, e⟩ := h2 p hp
    exact ⟨t, by omega, e⟩
  · rw [List.mem_singleton.1 hp]
    exact ⟨j, by omega, hm⟩
end
set_option maxRecDepth 20000 in
set_option maxHeartbeats 2000000 in
theorem ReorderClears_main (n out : Nat) (hn : n ≤ 100) (ho : out ≤ 10) (w : World) :
    Calls Try.prog 6 #[.int .i64 (n : Int), .int .i64 (out : Int)] w fun e w' => e = .returned (.bool true) ∧ Below w.heap.size w w' := by
  have hcc := fun (w : World) (C : Array Value) (n c : Nat) => Lib.run_convert_bytes_const (P := Try.prog) w 28 5 C n c Try.underlying28 Try.underlying5
  have i1 : ¬ (100 : Int) < (n : Int) := by omega
  have i2 : ¬ (10 : Int) < (out : Int) := by omega
  go_enter Try.func6, Try.ntmps6
  go_wp2_with fail
  refine (alive_calls w).mono ?_
  rintro e W ⟨rfl, hb⟩
  have NW := OdOne.new hb 128 16
  rw [show Od.new 128 16 = ⟨128, 16, 0, [], msgs mb 0⟩ from rfl] at NW
  clear hb
  go_wp2_with fail
  refine NW.mono ?_
  rintro e w1 ⟨rfl, h1⟩
  clear NW
  generalize W.heap.size + 1 = p at *
  have H1 : Aside (OdOne w w1 p ⟨128, 16, 0, [], msgs mb 0⟩) := h1
  clear h1
  go_wp2_with fail
  go_loopg [7] n (fun kx s7 wr => ∃ i : Nat, s7 = .int .i64 (i : Int) ∧ i ≤ n ∧ n - i ≤ kx ∧ Aside (OdOne w wr p ⟨128, 16, i, [], msgs mb i⟩))
  case atStart => exact ⟨0, rfl, by omega, by omega, H1.out⟩
  case round =>
    clear H1
    obtain ⟨i, rfl, hil, hkx, HO⟩ := hrel
    by_cases hlt : i < n
    · have hltz : (i : Int) < (n : Int) := by omega
      have P1 := (HO.out.beside (laid_below wr (mb i))).put (by show 0 + (msgs mb i).length ≤ _; rw [msgs_len]; omega) (i : Int) (by unfold I64; omega) (some ⟨wr.heap.size, 0, none⟩) 1 (mb i) (laid_rd wr (mb i)) (by simp [mb])
      obtain ⟨e2, e3⟩ := Od.put_now (s := ⟨128, 16, i, [], msgs mb i⟩) (n := (i : Int)) (x := mb i) (by show 1 ≤ 128; omega) (by show 1 ≤ 16; omega) (by show i < 128; omega) (by show (i : Int) % ((128 : Nat) : Int) = (i : Int); omega) rfl rfl
      have e1 := laid_mb wr (show i < 256 by omega)
      rw [e1, e2, e3] at P1
      simp only at P1
      rw [msgs_next, show (i + 1) % 128 = i + 1 by omega, show (mb i).length = 1 from rfl] at P1
      clear e1 e2 e3 HO
      go_wp2_with fail
      refine P1.mono ?_
      rintro e w2 ⟨rfl, h2⟩
      have FIN : Aside (OdOne w w2 p ⟨128, 16, i + 1, [], msgs mb (i + 1)⟩) := h2
      clear P1 h2
      go_wp2
      go_roundg (n - (i + 1))
      case measure => omega
      case rel => exact ⟨i + 1, by go_num, by omega, Nat.le_refl _, FIN⟩
    · have hltz : ¬ (i : Int) < (n : Int) := by omega
      have : i = n := by omega
      subst this
      clear hil hkx hlt
      have H2 : Aside (Kept w wr p i 0) := ⟨[], HO.out, rfl, fun p hp => by cases hp⟩
      clear HO
      go_wp2_with fail
      go_loopg [8] out (fun kx s8 wr => ∃ j : Nat, s8 = .int .i64 (j : Int) ∧ j ≤ out ∧ out - j ≤ kx ∧ Aside (Kept w wr p i j))
      case atStart => exact ⟨0, rfl, by omega, by omega, H2.out⟩
      case round =>
        clear H2 hltz
        obtain ⟨j, rfl, hjl, hkx, HO⟩ := hrel
        by_cases hlt : j < out
        · have hltz : (j : Int) < (out : Int) := by omega
          have P1 := (HO.out.beside (laidM_below wr [107])).put hn (by omega) (some ⟨wr.heap.size, 0, none⟩) 1 (laidM_rd wr [107])
          obtain ⟨z, hz⟩ : ∃ z, (i + 2 + j) % 128 = z := ⟨_, rfl⟩
          obtain ⟨e1, e2⟩ := mod_int (A := (i : Int) + 2 + (j : Int)) (a := i + 2 + j) (M := 128) (by omega) hz
          have e3 : ((i : Int) + 2 + (j : Int)).tmod 128 = (z : Int) := e1
          have e4 : ((i : Int) + 2 + (j : Int)) % 128 = (z : Int) := e2
          rw [hz] at P1
          clear HO e1 e2 hz
          go_wp2_with fail
          refine P1.mono ?_
          rintro e w2 ⟨rfl, h2⟩
          have FIN : Aside (Kept w w2 p i (j + 1)) := h2
          clear P1 h2
          go_wp2
          go_roundg (out - (j + 1))
          case measure => omega
          case rel => exact ⟨j + 1, by go_num, by omega, Nat.le_refl _, FIN⟩
        · have hltz : ¬ (j : Int) < (out : Int) := by omega
          obtain rfl : j = out := by omega
          clear hjl hkx hlt
          obtain ⟨k, h2, hkl, _⟩ := HO.out
          have G1 := h2.gap
          have C1 := h2.clear
          rw [show (⟨128, 16, i, k, msgs mb i⟩ : Od).gap = decide (0 < (j : Int)) by unfold Od.gap; rw [← hkl]; cases k <;> simp] at G1
          rw [show (⟨128, 16, i, k, msgs mb i⟩ : Od).clear = ⟨128, 16, 0, [], msgs mb i⟩ from rfl] at C1
          clear HO h2 hkl
          obtain ⟨g, hg⟩ : ∃ g, g = decide (0 < (j : Int)) := ⟨_, rfl⟩
          have hg2 : decide (0 < (j : Int)) = g := hg.symm
          have hg3 : decide (0 < j) = g := by rw [hg]; simp
          rw [← hg] at G1
          clear hg
          go_wp2_with fail
          refine G1.mono ?_
          rintro e w2 ⟨rfl, rfl⟩
          clear G1
          go_wp2_with fail
          refine C1.mono ?_
          rintro e w3 ⟨rfl, h3⟩
          clear C1
          have G3 := h3.gap
          have N3 := h3.next
          rw [show (⟨128, 16, 0, [], msgs mb i⟩ : Od).gap = false from rfl] at G3
          simp only at N3
          have P3 := (h3.beside (laidM_below w3 [122])).put (by show 0 + (msgs mb i).length ≤ _; rw [msgs_len]; omega) 0 (by unfold I64; omega) (some ⟨w3.heap.size, 0, none⟩) 1 [122] (laidM_rd w3 [122]) (by decide)
          obtain ⟨e2, e3⟩ := Od.put_now (s := ⟨128, 16, 0, [], msgs mb i⟩) (n := 0) (x := [122]) (by show 1 ≤ 128; omega) (by show 1 ≤ 16; omega) (by show 0 < 128; omega) rfl rfl rfl
          rw [e2, e3] at P3
          simp only at P3
          rw [show (0 + 1) % 128 = 1 from rfl] at P3
          clear h3 e2 e3
          go_wp2_with fail
          refine G3.mono ?_
          rintro e w4 ⟨rfl, rfl⟩
          clear G3
          go_wp2_with fail
          refine N3.mono ?_
          rintro e w5 ⟨rfl, rfl⟩
          clear N3 hg2 hg3
          go_wp2_with fail
          refine P3.mono ?_
          rintro e w6 ⟨rfl, h6⟩
          clear P3
          have H6 : Aside (OdOne w w6 p ⟨128, 16, 1, [], (msgs mb i).drop 0 ++ [[122]]⟩) := h6
          clear h6
          go_wp2_with fail
          go_loopg [11] i (fun kx s11 wr => ∃ t : Nat, s11 = .int .i64 (t : Int) ∧ t ≤ i ∧ i - t ≤ kx ∧ Aside (OdOne w wr p ⟨128, 16, 1, [], (msgs mb i).drop t ++ [[122]]⟩))
          case atStart => exact ⟨0, rfl, by omega, by omega, H6.out⟩
          case round =>
            clear H6
            obtain ⟨t, rfl, htl, hkx, HO⟩ := hrel
            by_cases hlt : t < i
            · have hltz : (t : Int) < (i : Int) := by omega
              have TK := HO.out.take
              rw [msgs_drop mb hlt, List.cons_append, Od.take_cons.1, Od.take_cons.2.1, Od.take_cons.2.2, show (mb t).length = 1 from rfl] at TK
              have LM := Lib.hid (fun v => laid_mb v (show t < 256 by omega))
              clear HO
              go_wp2_with fail
              refine TK.mono ?_
              rintro e w7 ⟨A7, c7, rfl, rd, h7, _⟩
              clear TK
              have q1 : (convert 28 9 (.slice A7 1 c7)).run Try.prog w7 = .ok (.string ⟨#[UInt8.ofNat t]⟩) w7 := run_conv w7 A7 c7 (mb t) rd
              have q3 := run_conv (laid w7 (mb t)) (some ⟨w7.heap.size, 0, none⟩) 1 (mb t) (laid_rd w7 (mb t))
              have FIN := h7.beside (laid_below w7 (mb t))
              rw [LM.out w7] at q3 FIN
              have q3' : (convert 28 9 (.slice (some ⟨w7.heap.size, 0, none⟩) 1 1)).run Try.prog (w7.alloc (.cells #[.int .u8 (t : Int)] 5)) = .ok (.string ⟨#[UInt8.ofNat t]⟩) (w7.alloc (.cells #[.int .u8 (t : Int)] 5)) := q3
              have FIN' : Aside (OdOne w (w7.alloc (.cells #[.int .u8 (t : Int)] 5)) p ⟨128, 16, 1, [], (msgs mb i).drop (t + 1) ++ [[122]]⟩) := FIN
              clear FIN q3 h7 rd LM
              generalize UInt8.ofNat t = y at *
              go_wp2
              go_roundg (i - (t + 1))
              case measure => omega
              case rel => exact ⟨t + 1, by go_num, by omega, Nat.le_refl _, FIN'⟩
            · have hltz : ¬ (t : Int) < (i : Int) := by omega
              obtain rfl : t = i := by omega
              have TK := HO.out.take
              rw [msgs_end mb t, List.nil_append, Od.take_cons.1, Od.take_cons.2.1, Od.take_cons.2.2] at TK
              clear HO
              go_wp2_with fail
              refine TK.mono ?_
              rintro e w7 ⟨A7, c7, rfl, rd, h7, _⟩
              clear TK
              have TK := h7.take
              rw [Od.take_nil.1, Od.take_nil.2.1, Od.take_nil.2.2] at TK
              clear h7
              go_wp2_with fail
              refine TK.mono ?_
              rintro e w8 ⟨A8, c8, rfl, _, h8, kp⟩
              have q7 : (convert 28 9 (.slice A7 1 c7)).run Try.prog w8 = .ok (.string ⟨#[122]⟩) w8 := run_conv w8 A7 c7 [122] (kp _ _ rd)
              have FI := Lib.hid h8.bel
              clear TK rd h8 kp
              go_wp2
              go_ret
              exact ⟨rfl, FI.out⟩
theorem ReorderClears_far (n out : Int) (h : n < 0 ∨ (0 ≤ n ∧ 100 < n) ∨ (0 ≤ n ∧ n ≤ 100 ∧ out < 0) ∨ (0 ≤ n ∧ n ≤ 100 ∧ 0 ≤ out ∧ 10 < out)) (w : World) :
    Calls Try.prog 6 #[.int .i64 n, .int .i64 out] w fun e w' => e = .returned (.bool true) ∧ Below w.heap.size w w' := by
  rcases h with h1 | ⟨h1, h2⟩ | ⟨h1, h2, h3⟩ | ⟨h1, h2, h3, h4⟩
  all_goals
    go_enter Try.func6, Try.ntmps6
    go_wp2_with fail
    refine (alive_calls w).mono ?_
    rintro e W ⟨rfl, hb⟩
    go_wp2
    go_ret
    exact ⟨rfl, hb⟩
theorem ReorderClears_walk (a0 a1 : Int) (w0 : (Lit.int .i64 a0).wf = true) (w1 : (Lit.int .i64 a1).wf = true) (w : World) :
    Calls Try.prog 6 #[.int .i64 a0, .int .i64 a1] w fun e w' => e = .returned (.bool true) ∧ Below w.heap.size w w' := by
  by_cases h : 0 ≤ a0 ∧ a0 ≤ 100 ∧ 0 ≤ a1 ∧ a1 ≤ 10
  · obtain ⟨h1, h2, h3, h4⟩ := h
    obtain ⟨n, rfl⟩ : ∃ n : Nat, a0 = n := ⟨a0.toNat, by omega⟩
    obtain ⟨m, rfl⟩ : ∃ m : Nat, a1 = m := ⟨a1.toNat, by omega⟩
    exact ReorderClears_main n m (by omega) (by omega) w
  · exact ReorderClears_far a0 a1 (by omega) w
end Go.Proofs.Ytbalhpffdgbdgaa

/- ClockPlays: the law's walk. No condition. -/
import Derived.Test.YtfikllghajhigaaClkThree
namespace Go.Proofs.Ytfikllghajhigaa
open Go.Proofs Go.RowKit Go.Lib Go.Sort
set_option linter.unusedVariables false

theorem Thr.two {w v : World} {p n1 n2 n3 q : Nat} {l1 l2 l3 : List Nat} {way id n : Int} (h : Thr w v p n1 l1 n2 l2 n3 l3 q (way, id, n)) : v.cell? ⟨q, 1, none⟩ = some (.int .i64 id) ∧ v.cell? ⟨q, 2, none⟩ = some (.int .i64 n) := (Pl.cells h).2
set_option maxHeartbeats 4000000 in
set_option maxRecDepth 100000 in
theorem ClockPlays_main (start : Nat) (A : Option Addr) (cap : Nat) (ls : List Act3) (h1 : start < 4294967296) (hl : ls.length ≤ 100) (w : World) (hr : RdA w A ls) :
    Calls Try.prog 3 #[.int .u32 (start : Int), .slice A ls.length cap] w fun e w' => e = .returned (.bool true) ∧ Below w.heap.size w w' := by
  have al := alive_calls w
  have HR := Lib.hid hr
  have g1 : ¬ 100 < (ls.length : Int) := by omega
  obtain ⟨len, hlen⟩ : ∃ n, n = ls.length := ⟨_, rfl⟩
  rw [← hlen] at g1 hl ⊢
  have HL := Lib.hid hlen
  clear hlen hr
  go_enter Try.func3, Try.ntmps3
  go_wp2_with fail
  refine al.mono ?_
  rintro e W ⟨rfl, bel⟩
  clear al
  obtain ⟨w3, hw3⟩ : ∃ w3, ((W.alloc (.cells (cc start nought) 45)).alloc (.cells (cc 7 nought) 45)).alloc (.cells (cc start nought) 47) = w3 := ⟨_, rfl⟩
  have hF : Thr0 w w3 W.heap.size start nought 7 nought start nought := by rw [← hw3]; exact Fam.start3 bel h1 (by decide) h1 _ _ _
  have c1 := new_calls start W
  have c2 := new_calls 7 (W.alloc (.cells (cc start nought) 45))
  have c3 := refNew_calls start ((W.alloc (.cells (cc start nought) 45)).alloc (.cells (cc 7 nought) 45))
  rw [show (W.alloc (.cells (cc start nought) 45)).heap.size = W.heap.size + 1 by simp] at c2
  rw [hw3, show ((W.alloc (.cells (cc start nought) 45)).alloc (.cells (cc 7 nought) 45)).heap.size = W.heap.size + 2 by simp] at c3
  obtain ⟨p, hp⟩ : ∃ p, p = W.heap.size := ⟨_, rfl⟩
  rw [← hp] at c1 c2 c3 hF
  have H0 : Aside (Thr0 w w3 p start nought 7 nought start nought) := hF
  clear hF hw3 hp
  go_wp2_with fail
  refine c1.mono ?_
  rintro e w' ⟨rfl, rfl⟩
  go_wp2_with fail
  refine c2.mono ?_
  rintro e w' ⟨rfl, rfl⟩
  go_wp2_with fail
  refine c3.mono ?_
  rintro e w' ⟨rfl, rfl⟩
  clear c1 c2 c3 bel
  go_wp2_with fail
  go_loopg [9] len (fun kx s9 wr => ∃ (i n1 n2 : Nat) (l lo : List Nat), s9 = .int .i64 i ∧ i ≤ len ∧ len - i ≤ kx ∧ Aside (Thr0 w wr p n1 l n2 lo n1 l))
  case atStart => exact ⟨0, start, 7, nought, nought, rfl, by omega, by omega, H0⟩
  case round =>
    clear H0
    obtain ⟨i, n1, n2, l, lo, rfl, hil, hkx, HT⟩ := hrel
    by_cases hlt : i < len
    · have hltz : (i : Int) < (len : Int) := by omega
      obtain ⟨b, off, rfl, hbw, k0, k1, k2⟩ := RdA.at_ (j := i) HR.out (by rw [← HL.out]; exact hlt)
      generalize ls.getD i (0, 0, 0) = x at k0 k1 k2
      obtain ⟨way, id, n⟩ := x
      have q0 := (HT.out.bel.cell (p := ⟨b, off + i * 3, none⟩) hbw).trans k0
      have q1 := (HT.out.bel.cell (p := ⟨b, off + i * 3 + 1, none⟩) hbw).trans k1
      have q2 := (HT.out.bel.cell (p := ⟨b, off + i * 3 + 2, none⟩) hbw).trans k2
      simp only at q0 q1 q2
      clear k0 k1 k2 hbw
      have H1 : Aside (Thr w (wr.alloc (.cells #[.int .i64 way, .int .i64 id, .int .i64 n] 30)) p n1 l n2 lo n1 l wr.heap.size (way, id, n)) := HT.out.call (way, id, n)
      clear HT
      go_wp2_with fail
      refine (Thr.startO H1.out _ _).mono ?_
      rintro e v1 ⟨rfl, hT⟩
      clear H1 q0 q1 q2
      generalize wr.heap.size = q at hT ⊢
      generalize startL lo _ _ = lo2 at hT
      have hT1 := hT.drew
      have k0 := (Pl.cells hT).1
      simp only at k0
      by_cases hw0 : way = 0
      · subst hw0
        go_wp2_with fail
        go_region_held (fun w' => w'.cell? ⟨q, 1, none⟩ = some (.int .i64 id) ∧ w'.cell? ⟨q, 2, none⟩ = some (.int .i64 n)) (first | exact Thr.two (by assumption) | exact Thr.two (Thr.drewN (by assumption) _)) (first | (go_at_call 10; refine (Thr.startS (by assumption) _ _).mono ?_; rintro e v' ⟨rfl, hT⟩) | (go_at_call 11; refine (Thr.startR (by assumption) _ _).mono ?_; rintro e v' ⟨rfl, hT⟩))
        have hTT := hT
        have cL := hTT.leftS id
        have cR := hTT.leftR id
        have cN := hTT.nowS
        have cM := hTT.nowR
        have FIN : Aside (Thr0 w v' p (n1) (startL l id n) n2 lo2 (n1) (startL l id n)) := hTT.zero
        have kk := (Pl.cells hTT).2.1
        simp only at kk
        generalize leftL (startL l id n) id = xl at cL cR
        generalize runs (startL l id n) id = xr at cL cR
        obtain ⟨mm, hmm⟩ : ∃ z, z = n1 := ⟨_, rfl⟩
        rw [← hmm] at cN cM FIN
        clear hTT hmm k0 hT hT1
        go_wp2_with fail
        refine cL.mono ?_
        rintro e v9 ⟨rfl, rfl⟩
        go_wp2_with fail
        refine cR.mono ?_
        rintro e v9 ⟨rfl, rfl⟩
        go_wp2_with fail
        refine cN.mono ?_
        rintro e v9 ⟨rfl, rfl⟩
        go_wp2_with fail
        refine cM.mono ?_
        rintro e v9 ⟨rfl, rfl⟩
        go_wp2
        go_roundg (len - (i + 1))
        case measure => omega
        case rel => exact ⟨i + 1, mm, n2, startL l id n, lo2, by go_num, by omega, Nat.le_refl _, FIN⟩
      · by_cases hw1 : way = 1
        · subst hw1
          go_wp2_with fail
          go_region_held (fun w' => w'.cell? ⟨q, 1, none⟩ = some (.int .i64 id) ∧ w'.cell? ⟨q, 2, none⟩ = some (.int .i64 n)) (first | exact Thr.two (by assumption) | exact Thr.two (Thr.drewN (by assumption) _)) (first | (go_at_call 12; refine (Thr.stopS (by assumption) _).mono ?_; rintro e v' ⟨rfl, hT⟩) | (go_at_call 13; refine (Thr.stopR (by assumption) _).mono ?_; rintro e v' ⟨rfl, hT⟩))
          have hTT := hT
          have cL := hTT.leftS id
          have cR := hTT.leftR id
          have cN := hTT.nowS
          have cM := hTT.nowR
          have FIN : Aside (Thr0 w v' p (n1) (stopL l id) n2 lo2 (n1) (stopL l id)) := hTT.zero
          have kk := (Pl.cells hTT).2.1
          simp only at kk
          generalize leftL (stopL l id) id = xl at cL cR
          generalize runs (stopL l id) id = xr at cL cR
          obtain ⟨mm, hmm⟩ : ∃ z, z = n1 := ⟨_, rfl⟩
          rw [← hmm] at cN cM FIN
          clear hTT hmm k0 hT hT1
          go_wp2_with fail
          refine cL.mono ?_
          rintro e v9 ⟨rfl, rfl⟩
          go_wp2_with fail
          refine cR.mono ?_
          rintro e v9 ⟨rfl, rfl⟩
          go_wp2_with fail
          refine cN.mono ?_
          rintro e v9 ⟨rfl, rfl⟩
          go_wp2_with fail
          refine cM.mono ?_
          rintro e v9 ⟨rfl, rfl⟩
          go_wp2
          go_roundg (len - (i + 1))
          case measure => omega
          case rel => exact ⟨i + 1, mm, n2, stopL l id, lo2, by go_num, by omega, Nat.le_refl _, FIN⟩
        · have hb0 : (way == 0) = false := by simpa using hw0
          have hb1 : (way == 1) = false := by simpa using hw1
          by_cases hw2 : way = 2
          · subst hw2
            clear hb0 hb1
            go_wp2_with fail
            go_region_held (fun w' => w'.cell? ⟨q, 1, none⟩ = some (.int .i64 id) ∧ w'.cell? ⟨q, 2, none⟩ = some (.int .i64 n)) (first | exact Thr.two (by assumption) | exact Thr.two (Thr.drewN (by assumption) _)) (first | (go_at_call 15; refine (Thr.passS (by assumption) _).mono ?_; rintro e v' ⟨A', c', L, rfl, hE, hR, hK, hT⟩) | (go_at_call 16; refine (Thr.passR (by assumption) _).mono ?_; rintro e v' ⟨A', c', L, rfl, hE, hR, hK, hT⟩) | (go_at_call 14; refine (same_res _ _ (by first | assumption | exact Res.kept (by assumption) (by assumption)) (by first | assumption | exact Res.kept (by assumption) (by assumption)) (by assumption) (by assumption)).mono ?_; rintro e v' ⟨rfl, md, rfl⟩))
            have hTT := hT.drewN md
            have cL := hTT.leftS id
            have cR := hTT.leftR id
            have cN := hTT.nowS
            have cM := hTT.nowR
            have FIN : Aside (Thr0 w (v'.drewN md) p (later n1 (cut 0 n)) (l.map (· - cut 0 n)) n2 lo2 (later n1 (cut 0 n)) (l.map (· - cut 0 n))) := hTT.zero
            have kk := (Pl.cells hTT).2.1
            simp only at kk
            generalize leftL (l.map (· - cut 0 n)) id = xl at cL cR
            generalize runs (l.map (· - cut 0 n)) id = xr at cL cR
            obtain ⟨mm, hmm⟩ : ∃ z, z = later n1 (cut 0 n) := ⟨_, rfl⟩
            rw [← hmm] at cN cM FIN
            clear hTT hmm k0 hT hT1
            go_wp2_with fail
            refine cL.mono ?_
            rintro e v9 ⟨rfl, rfl⟩
            go_wp2_with fail
            refine cR.mono ?_
            rintro e v9 ⟨rfl, rfl⟩
            go_wp2_with fail
            refine cN.mono ?_
            rintro e v9 ⟨rfl, rfl⟩
            go_wp2_with fail
            refine cM.mono ?_
            rintro e v9 ⟨rfl, rfl⟩
            go_wp2
            go_roundg (len - (i + 1))
            case measure => omega
            case rel => exact ⟨i + 1, mm, n2, l.map (· - cut 0 n), lo2, by go_num, by omega, Nat.le_refl _, FIN⟩
          · have hb2 : (way == 2) = false := by simpa using hw2
            have hTT := hT
            have cL := hTT.leftS id
            have cR := hTT.leftR id
            have cN := hTT.nowS
            have cM := hTT.nowR
            have FIN : Aside (Thr0 w v1 p (n1) (l) n2 lo2 (n1) (l)) := hTT.zero
            have kk := (Pl.cells hTT).2.1
            simp only at kk
            generalize leftL (l) id = xl at cL cR
            generalize runs (l) id = xr at cL cR
            obtain ⟨mm, hmm⟩ : ∃ z, z = n1 := ⟨_, rfl⟩
            rw [← hmm] at cN cM FIN
            clear hTT hmm hT hT1
            go_wp2_with fail
            refine cL.mono ?_
            rintro e v9 ⟨rfl, rfl⟩
            go_wp2_with fail
            refine cR.mono ?_
            rintro e v9 ⟨rfl, rfl⟩
            go_wp2_with fail
            refine cN.mono ?_
            rintro e v9 ⟨rfl, rfl⟩
            go_wp2_with fail
            refine cM.mono ?_
            rintro e v9 ⟨rfl, rfl⟩
            go_wp2
            go_roundg (len - (i + 1))
            case measure => omega
            case rel => exact ⟨i + 1, mm, n2, l, lo2, by go_num, by omega, Nat.le_refl _, FIN⟩
    · have hltz : ¬ (i : Int) < (len : Int) := by omega
      have FIN : Aside (Below w.heap.size w wr) := HT.out.bel
      go_wp2
      go_ret
      exact ⟨rfl, FIN.out⟩
theorem ClockPlays_far (start : Int) (A : Option Addr) (len cap : Nat) (hl : 100 < len) (hc : len ≤ maxLen) (w : World) :
    Calls Try.prog 3 #[.int .u32 start, .slice A len cap] w fun e w' => e = .returned (.bool true) ∧ Below w.heap.size w w' := by
  have al := alive_calls w
  have g1 : 100 < (len : Int) := by omega
  unfold maxLen at hc
  go_enter Try.func3, Try.ntmps3
  go_wp2_with fail
  refine al.mono ?_
  rintro e W ⟨rfl, bel⟩
  have FIN := Lib.hid bel
  clear al bel
  go_wp2
  go_ret
  exact ⟨rfl, FIN.out⟩
theorem ClockPlays_walk (start : Int) (A : Option Addr) (len cap : Nat) (w : World) (w0 : (Lit.int .u32 start).wf = true) (h : IsActs w A len cap) :
    Calls Try.prog 3 #[.int .u32 start, .slice A len cap] w fun e w' => e = .returned (.bool true) ∧ Below w.heap.size w w' := by
  obtain ⟨ls, rfl, h1, h2, hr⟩ := h
  obtain ⟨o, ho, ho'⟩ : ∃ k : Nat, start = (k : Int) ∧ k < 4294967296 := by
    have := bounds_u32 w0
    exact ⟨start.toNat, by omega, by omega⟩
  subst ho
  by_cases hl : ls.length ≤ 100
  · exact ClockPlays_main o A cap ls ho' hl w hr
  · exact ClockPlays_far _ A ls.length cap (by omega) (by omega) w
end Go.Proofs.Ytfikllghajhigaa

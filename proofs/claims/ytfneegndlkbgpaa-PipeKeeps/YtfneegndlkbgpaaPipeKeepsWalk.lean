/- The law PipeKeeps, walked. Condition: the slices read as their rows and numbers. -/
import Derived.Test.YtfneegndlkbgpaaPipAlive
import Derived.Test.YtfneegndlkbgpaaBytesRowsC
import Derived.Test.YtfneegndlkbgpaaIntRows
import Derived.Deep.LoopGhost
namespace Go.Proofs.Ytfneegndlkbgpaa
open Go.RowKit
set_option linter.unusedVariables false

theorem str_cat (a b : List UInt8) : ((⟨a.toArray⟩ : ByteArray) ++ (⟨b.toArray⟩ : ByteArray)) = ⟨(a ++ b).toArray⟩ := by
  apply ByteArray.ext
  simp
theorem newPip_nat (R : Nat) (h : R ≤ 1048576) : newPip (R : Int) = ⟨R, [], false, false⟩ := by
  unfold newPip
  congr 1
  omega
theorem put_open (R : Nat) (l x : List UInt8) : (⟨R, l, false, false⟩ : Pip).put x = ⟨R, l ++ x.take (min x.length (R - l.length)), false, false⟩ ∧ (⟨R, l, false, false⟩ : Pip).putN x = min x.length (R - l.length) := ⟨rfl, rfl⟩
theorem take_open (R : Nat) (l : List UInt8) (n : Int) : (⟨R, l, false, false⟩ : Pip).take n = ⟨R, l.drop (lim n l.length), false, false⟩ ∧ (⟨R, l, false, false⟩ : Pip).takeL n = l.take (lim n l.length) := ⟨rfl, rfl⟩
set_option maxRecDepth 20000 in
set_option maxHeartbeats 1000000 in
theorem PipeKeeps_main (R : Nat) (hR : R ≤ 1000) (A : Option Addr) (c1 : Nat) (ls : List (List UInt8)) (A2 : Option Addr) (c2 : Nat) (ts : List Int) (w : World) (hr : RdR w A ls) (hl : ls.length ≤ 30) (hr2 : RdI w A2 ts) (ht : ls.length ≤ ts.length) (ht' : ts.length ≤ 9223372036854775807) :
    Calls Try.prog 4 #[.int .i64 (R : Int), .slice A ls.length c1, .slice A2 ts.length c2] w fun e w' => e = .returned (.bool true) ∧ Below w.heap.size w w' := by
  have RA := Lib.hid hr
  have RI := Lib.hid hr2
  obtain ⟨len, hlen⟩ : ∃ n, n = ls.length := ⟨_, rfl⟩
  obtain ⟨len2, hlen2⟩ : ∃ n, n = ts.length := ⟨_, rfl⟩
  rw [← hlen] at hl ht ⊢
  rw [← hlen2] at ht ht' ⊢
  have HL := Lib.hid hlen
  have HL2 := Lib.hid hlen2
  clear hr hr2 hlen hlen2
  have g1 : ¬ (R : Int) < 0 := by omega
  have g2 : ¬ (1000 : Int) < (R : Int) := by omega
  have g3 : ¬ (30 : Int) < (len : Int) := by omega
  have g4 : ¬ (len2 : Int) < (len : Int) := by omega
  go_enter Try.func4, Try.ntmps4
  go_wp2_with fail
  refine (alive_calls w).mono ?_
  rintro e W ⟨rfl, hb⟩
  have NW := new_calls (R : Int) W
  have O1 := One.fresh hb (R : Int)
  rw [newPip_nat R (by omega)] at NW O1
  have H1 : Aside (One w (W.alloc (.cells (pc R none 0 0 false false) 42)) (fun k => k = W.heap.size) W.heap.size ⟨R, [], false, false⟩) := O1
  clear hb O1
  go_wp2_with fail
  refine NW.mono ?_
  rintro e w1 ⟨rfl, rfl⟩
  clear NW
  generalize W.alloc (.cells (pc R none 0 0 false false) 42) = w1 at *
  generalize W.heap.size = p at *
  go_wp2_with fail
  go_loopg [9, 10, 11] len (fun kx s9 s10 s11 wr => ∃ (i : Nat) (I O l : List UInt8) (F : Nat → Prop), s9 = .string ⟨I.toArray⟩ ∧ s10 = .string ⟨O.toArray⟩ ∧ s11 = .int .i64 i ∧ i ≤ len ∧ len - i ≤ kx ∧ Aside (One w wr F p ⟨R, l, false, false⟩ ∧ O ++ l = I ∧ I.length ≤ 200 * i))
  case atStart => exact ⟨0, [], [], [], _, rfl, rfl, rfl, by omega, by omega, H1.out, rfl, by simp⟩
  case round =>
    clear H1
    obtain ⟨i, I, O, l, F, rfl, rfl, rfl, hil, hkx, HO⟩ := hrel
    by_cases hlt : i < len
    · have hltz : (i : Int) < (len : Int) := by omega
      have hltz2 : (i : Int) < (len2 : Int) := by omega
      obtain ⟨b, off, B, d, rfl, hbw, k0, rdx, hxd, hdm⟩ := RdR.at_ (k := i) RA.out (by rw [← HL.out]; exact hlt)
      obtain ⟨b2, off2, rfl, hbw2, k2⟩ := RdI.at_ (k := i) RI.out (by rw [← HL2.out]; omega)
      generalize ls.getD i [] = x at *
      generalize ts.getD i 0 = t at k2
      have KK := Lib.hid (show ∀ v, Below w.heap.size w v → v.cell? ⟨b, off + i, none⟩ = some (.slice B x.length d) ∧ v.cell? ⟨b2, off2 + i, none⟩ = some (.int .i64 t) ∧ Rd v B x from fun v hv => ⟨(hv.cell (p := ⟨b, off + i, none⟩) hbw).trans k0, (hv.cell (p := ⟨b2, off2 + i, none⟩) hbw2).trans k2, rdx.below hv⟩)
      have hxd' : (x.length : Int) ≤ (d : Int) := by omega
      have hdm' : d ≤ 9223372036854775807 := by unfold maxLen at hdm; omega
      have HD := Lib.hid hdm
      clear k0 k2 rdx hbw hbw2 hdm
      obtain ⟨q0, _, _⟩ := KK.out wr HO.out.1.bel
      by_cases hx : x.length ≤ 200
      · have hxz : ¬ (200 : Int) < (x.length : Int) := by omega
        have P1 := HO.out.1.put B d x (KK.out wr HO.out.1.bel).2.2 hxd HD.out
        rw [(put_open R l x).1, (put_open R l x).2] at P1
        obtain ⟨k, hk⟩ : ∃ k, k = min x.length (R - l.length) := ⟨_, rfl⟩
        rw [← hk] at P1
        have hlR : l.length ≤ R := HO.out.1.1.ok.1
        have hkx1 : k ≤ x.length := by omega
        have HK := Lib.hid hk
        clear hk
        go_wp2_with fail
        refine P1.mono ?_
        rintro e w2 ⟨rfl, h2, o2⟩
        clear P1 q0 o2
        generalize more _ _ _ = F2 at h2
        obtain ⟨q0, q1, q2⟩ := KK.out w2 h2.bel
        have ht : (x.take k).length = k := by simp; omega
        have cv := run_conv w2 B d (x.take k) (q2.front k)
        rw [ht] at cv
        unfold strV at cv
        have LN := h2.len
        have hll : (l ++ x.take k).length = l.length + k := by simp [ht]
        have TK := h2.take t
        rw [(take_open R _ t).1, (take_open R _ t).2] at TK
        have hT : (l ++ x.take k).take (lim t (l ++ x.take k).length) ++ (l ++ x.take k).drop (lim t (l ++ x.take k).length) = l ++ x.take k := List.take_append_drop _ _
        generalize (l ++ x.take k).take (lim t (l ++ x.take k).length) = T at *
        generalize (l ++ x.take k).drop (lim t (l ++ x.take k).length) = l2 at *
        have HII := Lib.hid (show (O ++ T) ++ l2 = I ++ x.take k by rw [List.append_assoc, hT, ← List.append_assoc, HO.out.2.1])
        rw [hll] at LN
        have HIL := Lib.hid (show (I ++ x.take k).length ≤ 200 * (i + 1) by rw [List.length_append, ht]; have := HO.out.2.2; omega)
        have HIk := Lib.hid (show I.length ≤ 6000 ∧ O.length ≤ 6000 ∧ T.length ≤ 2000 ∧ l2.length ≤ R by
          have h1 := HO.out.2.2
          have h2' := congrArg List.length HO.out.2.1
          have h3 := congrArg List.length hT
          rw [List.length_append] at h2' h3
          rw [hll] at h3
          refine ⟨by omega, by omega, by omega, ?_⟩
          have := h2.1.ok.1
          have e : (⟨R, l ++ x.take k, false, false⟩ : Pip).l.length = l.length + k := hll
          have e2 : (⟨R, l ++ x.take k, false, false⟩ : Pip).R = R := rfl
          omega)
        have sc1 := str_cat I (x.take k)
        have sc2 := str_cat O T
        have kz0 : ¬ (k : Int) < 0 := by omega
        have kz1 : ¬ (x.length : Int) < (k : Int) := by omega
        have kz2 : (0 : Int) ≤ (k : Int) := by omega
        have kz3 : (k : Int) ≤ (d : Int) := by omega
        have s1 : ¬ 9223372036854775807 < I.length + (x.take k).length := by have := HIk.out; omega
        have s2 : ¬ 9223372036854775807 < O.length + T.length := by have := HIk.out; omega
        have hle := Lib.hid (show (I ++ x.take k).length = (O ++ T).length + l2.length by rw [← HII.out, List.length_append])
        have HT := Lib.hid ht
        clear h2 HO ht hT hll
        have FULL := Lib.hid (show k < x.length → l.length + k = R by intro h; have := HK.out; omega)
        generalize hI' : I ++ x.take k = I' at *
        generalize x.take k = xk at *
        clear hI'
        by_cases hkl : k < x.length
        · have hkz : (k : Int) < (x.length : Int) := by omega
          rw [FULL.out hkl] at LN
          have hRR : ((R : Int) != (R : Int)) = false := by simp
          go_wp2_with fail
          refine LN.mono ?_
          rintro e v9 ⟨rfl, rfl⟩
          clear LN
          go_wp2_with fail
          refine TK.mono ?_
          rintro e w3 ⟨⟨A9, c9, rfl, own9⟩, h3, _⟩
          have q9 := run_conv w3 A9 c9 T own9.rd
          unfold strV at q9
          have LN := h3.len
          have H3 : Aside (One w w3 F2 p ⟨R, l2, false, false⟩ ∧ (O ++ T) ++ l2 = I' ∧ I'.length ≤ 200 * (i + 1)) := ⟨h3, HII.out, HIL.out⟩
          have z1 : ¬ (R : Int) < (l2.length : Int) := by have := HIk.out; omega
          have z2 : ((O ++ T).length : Int) + (l2.length : Int) = (I'.length : Int) := by have := hle.out; omega
          have z3 : wrap64 (I'.length : Int) = (I'.length : Int) := by have := HIL.out; unfold wrap64; omega
          clear TK own9 h3
          generalize O ++ T = O' at *
          go_wp2_with fail
          refine LN.mono ?_
          rintro e v9 ⟨rfl, rfl⟩
          go_wp2_with fail
          refine LN.mono ?_
          rintro e v9 ⟨rfl, rfl⟩
          clear LN
          go_wp2
          go_roundg (len - (i + 1))
          case measure => omega
          case rel => exact ⟨i + 1, I', O', l2, F2, rfl, rfl, by go_num, by omega, Nat.le_refl _, H3⟩
        · have hkz : ¬ (k : Int) < (x.length : Int) := by omega
          clear LN
          go_wp2_with fail
          refine TK.mono ?_
          rintro e w3 ⟨⟨A9, c9, rfl, own9⟩, h3, _⟩
          have q9 := run_conv w3 A9 c9 T own9.rd
          unfold strV at q9
          have LN := h3.len
          have H3 : Aside (One w w3 F2 p ⟨R, l2, false, false⟩ ∧ (O ++ T) ++ l2 = I' ∧ I'.length ≤ 200 * (i + 1)) := ⟨h3, HII.out, HIL.out⟩
          have z1 : ¬ (R : Int) < (l2.length : Int) := by have := HIk.out; omega
          have z2 : ((O ++ T).length : Int) + (l2.length : Int) = (I'.length : Int) := by have := hle.out; omega
          have z3 : wrap64 (I'.length : Int) = (I'.length : Int) := by have := HIL.out; unfold wrap64; omega
          clear TK own9 h3
          generalize O ++ T = O' at *
          go_wp2_with fail
          refine LN.mono ?_
          rintro e v9 ⟨rfl, rfl⟩
          go_wp2_with fail
          refine LN.mono ?_
          rintro e v9 ⟨rfl, rfl⟩
          clear LN
          go_wp2
          go_roundg (len - (i + 1))
          case measure => omega
          case rel => exact ⟨i + 1, I', O', l2, F2, rfl, rfl, by go_num, by omega, Nat.le_refl _, H3⟩
      · have hxz : (200 : Int) < (x.length : Int) := by omega
        have FIN := Lib.hid HO.out.1.bel
        go_wp2
        go_ret
        exact ⟨rfl, FIN.out⟩
    · have hltz : ¬ (i : Int) < (len : Int) := by omega
      have P1 := HO.out.1.take 1000
      rw [(take_open R l 1000).1, (take_open R l 1000).2, lim_all (n := 1000) (m := l.length) (by have h1 := HO.out.1.1.ok.1; have h2 : (⟨R, l, false, false⟩ : Pip).l.length = l.length := rfl; have h3 : (⟨R, l, false, false⟩ : Pip).R = R := rfl; omega), List.take_length] at P1
      have sc := str_cat O l
      rw [HO.out.2.1] at sc
      have s1 : ¬ 9223372036854775807 < O.length + l.length := by have h1 := HO.out.2.2; have h2 := congrArg List.length HO.out.2.1; rw [List.length_append] at h2; omega
      clear HO
      go_wp2_with fail
      refine P1.mono ?_
      rintro e w2 ⟨⟨A9, c9, rfl, own9⟩, h2, _⟩
      have q9 := run_conv w2 A9 c9 l own9.rd
      unfold strV at q9
      have FIN := Lib.hid h2.bel
      clear P1 own9 h2
      go_wp2
      go_ret
      exact ⟨rfl, FIN.out⟩
theorem PipeKeeps_far (R : Int) (A A2 : Option Addr) (len c1 len2 c2 : Nat) (w : World) (hl : len ≤ 9223372036854775807) (hl2 : len2 ≤ 9223372036854775807) (h : R < 0 ∨ 1000 < R ∨ 30 < len ∨ len2 < len) :
    Calls Try.prog 4 #[.int .i64 R, .slice A len c1, .slice A2 len2 c2] w fun e w' => e = .returned (.bool true) ∧ Below w.heap.size w w' := by
  have G := Lib.hid h
  clear h
  by_cases g1 : R < 0
  · go_enter Try.func4, Try.ntmps4
    go_wp2_with fail
    refine (alive_calls w).mono ?_
    rintro e W ⟨rfl, hb⟩
    go_wp2
    go_ret
    exact ⟨rfl, hb⟩
  by_cases g2 : 1000 < R
  · go_enter Try.func4, Try.ntmps4
    go_wp2_with fail
    refine (alive_calls w).mono ?_
    rintro e W ⟨rfl, hb⟩
    go_wp2
    go_ret
    exact ⟨rfl, hb⟩
  by_cases g3 : (30 : Int) < (len : Int)
  · go_enter Try.func4, Try.ntmps4
    go_wp2_with fail
    refine (alive_calls w).mono ?_
    rintro e W ⟨rfl, hb⟩
    go_wp2
    go_ret
    exact ⟨rfl, hb⟩
  · have g4 : (len2 : Int) < (len : Int) := by have := G.out; omega
    go_enter Try.func4, Try.ntmps4
    go_wp2_with fail
    refine (alive_calls w).mono ?_
    rintro e W ⟨rfl, hb⟩
    go_wp2
    go_ret
    exact ⟨rfl, hb⟩
theorem PipeKeeps_walk (a0 : Int) (a1 : Option Addr) (len1 cap1 : Nat) (a2 : Option Addr) (len2 cap2 : Nat) (z2 : List Int) (w : World) (w0 : (Lit.int .i64 a0).wf = true) (h1 : IsRows w a1 len1 cap1)
    (h2 : (a2 = none ∧ len2 = 0 ∧ cap2 = 0 ∧ z2 = []) ∨ ∃ x, a2 = some x ∧ len2 ≤ cap2 ∧ cap2 ≤ maxLen ∧ z2.length = cap2 ∧ (∀ i, i < z2.length → w.cell? (x.add i) = some (.int .i64 (z2.getD i 0))) ∧ ∀ n ∈ z2, (Lit.int .i64 n).wf = true) :
    Calls Try.prog 4 #[.int .i64 a0, .slice a1 len1 cap1, .slice a2 len2 cap2] w fun e w' => e = .returned (.bool true) ∧ Below w.heap.size w w' := by
  obtain ⟨ls, rfl, hc1, hm1, hr1⟩ := h1
  obtain ⟨ts, rfl, hc2, hm2, hr2⟩ := RdI.of_row h2
  unfold maxLen at hm1 hm2
  by_cases h : a0 < 0 ∨ 1000 < a0 ∨ 30 < ls.length ∨ ts.length < ls.length
  · exact PipeKeeps_far a0 a1 a2 ls.length cap1 ts.length cap2 w (by omega) (by omega) h
  · obtain ⟨R, rfl⟩ : ∃ R : Nat, a0 = (R : Int) := ⟨a0.toNat, by omega⟩
    exact PipeKeeps_main R (by omega) a1 cap1 ls a2 cap2 ts w hr1 (by omega) hr2 (by omega) (by omega)
end Go.Proofs.Ytfneegndlkbgpaa

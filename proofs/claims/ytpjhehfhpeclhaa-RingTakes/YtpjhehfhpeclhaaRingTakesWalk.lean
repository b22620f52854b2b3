/- The law RingTakes, walked. Condition: the slices read as their rows and numbers. -/
import Derived.Test.YtpjhehfhpeclhaaRngPair
import Derived.Test.YtpjhehfhpeclhaaRngStr
import Derived.Test.YtpjhehfhpeclhaaBytesRowsC
import Derived.Test.YtpjhehfhpeclhaaIntRows
import Derived.Deep.LoopGhost
namespace Go.Proofs.Ytpjhehfhpeclhaa
open Go.RowKit
set_option linter.unusedVariables false

set_option maxRecDepth 20000 in
set_option maxHeartbeats 1000000 in
theorem RingTakes_main (A : Option Addr) (c1 : Nat) (ls : List (List UInt8)) (A2 : Option Addr) (c2 : Nat) (ts : List Int) (w : World) (hr : RdR w A ls) (hl : ls.length ≤ 20) (hr2 : RdI w A2 ts) (ht : ts.length ≤ 200) :
    Calls Try.prog 6 #[.slice A ls.length c1, .slice A2 ts.length c2] w fun e w' => e = .returned (.bool true) ∧ Below w.heap.size w w' := by
  have RA := Lib.hid hr
  have RI := Lib.hid hr2
  obtain ⟨len, hlen⟩ : ∃ n, n = ls.length := ⟨_, rfl⟩
  obtain ⟨len2, hlen2⟩ : ∃ n, n = ts.length := ⟨_, rfl⟩
  rw [← hlen] at hl ⊢
  rw [← hlen2] at ht ⊢
  have HL := Lib.hid hlen
  have HL2 := Lib.hid hlen2
  clear hr hr2 hlen hlen2
  have g3 : ¬ (20 : Int) < (len : Int) := by omega
  have g4 : ¬ (200 : Int) < (len2 : Int) := by omega
  go_enter Try.func6, Try.ntmps6
  go_wp2_with fail
  refine (alive_calls w).mono ?_
  rintro e W ⟨rfl, hb⟩
  have NW := new_calls 1048576 W
  have NV := new_calls 1048576 (W.alloc (.cells (rc (newRng 1048576).R none 0 0 0 none 0 0 0) 41))
  have H1 : Aside (Pair w ((W.alloc (.cells (rc (newRng 1048576).R none 0 0 0 none 0 0 0) 41)).alloc (.cells (rc (newRng 1048576).R none 0 0 0 none 0 0 0) 41)) (fun k => k = W.heap.size) (fun k => k = W.heap.size + 1) W.heap.size (W.heap.size + 1) (newRng 1048576) (newRng 1048576)) := Pair.start hb 1048576 1048576
  rw [show (W.alloc (.cells (rc (newRng 1048576).R none 0 0 0 none 0 0 0) 41)).heap.size = W.heap.size + 1 by simp] at NV
  clear hb
  go_wp2_with fail
  refine NW.mono ?_
  rintro e w1 ⟨rfl, rfl⟩
  clear NW
  generalize (W.alloc (.cells (rc (newRng 1048576).R none 0 0 0 none 0 0 0) 41)) = W1 at *
  go_wp2_with fail
  refine NV.mono ?_
  rintro e w1 ⟨rfl, rfl⟩
  clear NV
  generalize W1.alloc (.cells (rc (newRng 1048576).R none 0 0 0 none 0 0 0) 41) = w1 at *
  generalize W.heap.size + 1 = q at *
  generalize W.heap.size = p at *
  go_wp2_with fail
  go_loopg [8, 9] len (fun kx s8 s9 wr => ∃ (i : Nat) (J : List UInt8) (sa sb : Rng) (Fa Fb : Nat → Prop), s8 = .int .i64 (J.length : Int) ∧ s9 = .int .i64 i ∧ i ≤ len ∧ len - i ≤ kx ∧ J.length ≤ 100 * i ∧ Aside (Pair w wr Fa Fb p q sa sb ∧ sa.o = J ∧ sb.o = J ∧ sa.R = 1048576 ∧ sb.R = 1048576))
  case atStart => exact ⟨0, [], _, _, _, _, rfl, rfl, by omega, by omega, by simp, H1.out, rfl, rfl, by decide, by decide⟩
  case round =>
    clear H1
    obtain ⟨i, J, sa, sb, Fa, Fb, rfl, rfl, hil, hkx, hJi, HO⟩ := hrel
    by_cases hlt : i < len
    · have hltz : (i : Int) < (len : Int) := by omega
      obtain ⟨b, off, B, d, rfl, hbw, k0, rdx, hxd, hdm⟩ := RdR.at_ (k := i) RA.out (by rw [← HL.out]; exact hlt)
      generalize ls.getD i [] = x at *
      have KK := Lib.hid (show ∀ v, Below w.heap.size w v → v.cell? ⟨b, off + i, none⟩ = some (.slice B x.length d) ∧ Rd v B x from fun v hv => ⟨(hv.cell (p := ⟨b, off + i, none⟩) hbw).trans k0, rdx.below hv⟩)
      have hdm' : d ≤ 9223372036854775807 := by unfold maxLen at hdm; omega
      have HD := Lib.hid hdm
      clear k0 rdx hbw hdm
      obtain ⟨q0, _⟩ := KK.out wr HO.out.1.bel
      by_cases hx : x.length ≤ 100
      · have hxz : ¬ (100 : Int) < (x.length : Int) := by omega
        have P1 := HO.out.1.addA B d x (KK.out wr HO.out.1.bel).2 hxd HD.out
        have fa : sa.o.length + x.length ≤ sa.R := by rw [HO.out.2.1, HO.out.2.2.2.1]; omega
        have fb : sb.o.length + x.length ≤ sb.R := by rw [HO.out.2.2.1, HO.out.2.2.2.2]; omega
        have AOa := Lib.hid (add_o fa)
        have AOb := Lib.hid (add_o fb)
        have HV := Lib.hid HO.out.2
        clear HO fa fb
        generalize sa.fits x = r1 at *
        go_wp2_with fail
        refine P1.mono ?_
        rintro e w2 ⟨rfl, h2⟩
        clear P1 q0
        obtain ⟨q0, q2⟩ := KK.out w2 h2.bel
        have P2 := h2.addB B d x q2 hxd HD.out
        clear h2 q2
        generalize sb.fits x = r2 at *
        go_wp2_with fail
        refine P2.mono ?_
        rintro e w3 ⟨rfl, h3⟩
        clear P2 q0
        obtain ⟨q0, _⟩ := KK.out w3 h3.bel
        generalize more _ _ _ = Fa2 at h3
        generalize more _ _ _ = Fb2 at h3
        have FIN : Aside (Pair w w3 Fa2 Fb2 p q (sa.add x) (sb.add x) ∧ (sa.add x).o = J ++ x ∧ (sb.add x).o = J ++ x ∧ (sa.add x).R = 1048576 ∧ (sb.add x).R = 1048576) := ⟨h3, by rw [AOa.out.1, HV.out.1], by rw [AOb.out.1, HV.out.2.1], by rw [AOa.out.2.1, HV.out.2.2.1], by rw [AOb.out.2.1, HV.out.2.2.2]⟩
        have HJ := Lib.hid (len_app J x)
        clear h3 AOa AOb HV
        go_wp2
        go_roundg (len - (i + 1))
        case measure => omega
        case rel => exact ⟨i + 1, J ++ x, _, _, Fa2, Fb2, val_int (by have := HJ.out; omega), by go_num, by omega, Nat.le_refl _, by have := HJ.out; omega, FIN⟩
      · have hxz : (100 : Int) < (x.length : Int) := by omega
        have FIN := Lib.hid HO.out.1.bel
        go_wp2
        go_ret
        exact ⟨rfl, FIN.out⟩
    · have hltz : ¬ (i : Int) < (len : Int) := by omega
      have hJ2 : J.length ≤ 2000 := by omega
      have H2 : Aside (Pair w wr Fa Fb p q sa sb ∧ sa.o = J ∧ sb.o = J) := ⟨HO.out.1, HO.out.2.1, HO.out.2.2.1⟩
      clear HO hkx hJi hil
      go_wp2_with fail
      go_loopg [10, 12] J.length (fun kx s10 s12 wr => ∃ (i : Nat) (K : List UInt8) (sa : Rng), s10 = .string ⟨K.toArray⟩ ∧ s12 = .int .i64 i ∧ i ≤ J.length ∧ J.length - i ≤ kx ∧ K.length = i ∧ Aside (Pair w wr Fa Fb p q sa sb ∧ K ++ sa.o = J ∧ sb.o = J))
      case atStart => exact ⟨0, [], sa, rfl, rfl, by omega, by omega, rfl, H2.out.1, H2.out.2.1, H2.out.2.2⟩
      case round =>
        clear H2 hltz
        obtain ⟨i2, K, sa, rfl, rfl, hil, hkx, hKi, HO⟩ := hrel
        have HKi := Lib.hid hKi
        clear hKi
        by_cases hlt2 : i2 < J.length
        · have hltz : (i2 : Int) < (J.length : Int) := by omega
          have TK := HO.out.1.takeA 1
          have hT : sa.takeL 1 ++ (sa.take 1).o = sa.o := by rw [Rng.take_o]; exact List.take_append_drop _ _
          have hT1 : (sa.takeL 1).length = 1 := by
            have h1 := congrArg List.length HO.out.2.1
            rw [List.length_append] at h1
            have h2 : 1 ≤ sa.o.length := by have := HKi.out; omega
            have h3 : lim 1 sa.o.length = 1 := by unfold lim; omega
            unfold Rng.takeL
            rw [h3, List.length_take]
            omega
          have HII := Lib.hid (show (K ++ sa.takeL 1) ++ (sa.take 1).o = J by rw [List.append_assoc, hT]; exact HO.out.2.1)
          have HK2 := Lib.hid (show (K ++ sa.takeL 1).length = i2 + 1 by rw [List.length_append, hT1, HKi.out])
          have HSB := Lib.hid HO.out.2.2
          have s2 : ¬ 9223372036854775807 < K.length + (sa.takeL 1).length := by rw [hT1, HKi.out]; omega
          have sc2 := str_cat K (sa.takeL 1)
          clear HO hT hT1
          generalize sa.takeL 1 = T at *
          generalize sa.take 1 = sa3 at *
          go_wp2_with fail
          refine TK.mono ?_
          rintro e w3 ⟨⟨A9, c9, rfl, own9⟩, h3⟩
          have q9 := run_conv w3 A9 c9 T own9.rd
          unfold strV at q9
          have FIN : Aside (Pair w w3 Fa Fb p q sa3 sb ∧ (K ++ T) ++ sa3.o = J ∧ sb.o = J) := ⟨h3, HII.out, HSB.out⟩
          clear TK own9 h3
          go_wp2
          go_roundg (J.length - (i2 + 1))
          case measure => omega
          case rel => exact ⟨i2 + 1, K ++ T, sa3, rfl, by go_num, by omega, Nat.le_refl _, HK2.out, FIN⟩
        · have hltz : ¬ (i2 : Int) < (J.length : Int) := by omega
          have e0 : sa.o = [] := by
            have h1 := congrArg List.length HO.out.2.1
            rw [List.length_append] at h1
            have := HKi.out
            exact List.eq_nil_of_length_eq_zero (by omega)
          have eK : K = J := by have h := HO.out.2.1; rw [e0, List.append_nil] at h; exact h
          subst eK
          have H3 : Aside (Pair w wr Fa Fb p q sa sb ∧ sb.o = K ∧ sa.o = []) := ⟨HO.out.1, HO.out.2.2, e0⟩
          clear HO hkx hil HKi hlt2 e0
          go_wp2_with fail
          go_loopg [11, 13] len2 (fun kx s11 s13 wr => ∃ (i : Nat) (L : List UInt8) (sb : Rng), s11 = .string ⟨L.toArray⟩ ∧ s13 = .int .i64 i ∧ i ≤ len2 ∧ len2 - i ≤ kx ∧ Aside (Pair w wr Fa Fb p q sa sb ∧ L ++ sb.o = K ∧ sa.o = []))
          case atStart => exact ⟨0, [], sb, rfl, rfl, by omega, by omega, H3.out.1, H3.out.2.1, H3.out.2.2⟩
          case round =>
            clear H3 hltz
            obtain ⟨i3, L, sb, rfl, rfl, hil, hkx, HO⟩ := hrel
            have hLK : L.length ≤ 2000 := by
              have h1 := congrArg List.length HO.out.2.1
              rw [List.length_append] at h1
              omega
            by_cases hlt3 : i3 < len2
            · have hltz : (i3 : Int) < (len2 : Int) := by omega
              obtain ⟨b2, off2, rfl, hbw2, k2⟩ := RdI.at_ (k := i3) RI.out (by rw [← HL2.out]; omega)
              generalize ts.getD i3 0 = t at k2
              have q1 := (HO.out.1.bel.cell (p := ⟨b2, off2 + i3, none⟩) hbw2).trans k2
              obtain ⟨z, hz⟩ : ∃ z, bits .and .i64 t 15 = z := ⟨_, rfl⟩
              have TK := HO.out.1.takeB z
              have hT : sb.takeL z ++ (sb.take z).o = sb.o := by rw [Rng.take_o]; exact List.take_append_drop _ _
              have HII := Lib.hid (show (L ++ sb.takeL z) ++ (sb.take z).o = K by rw [List.append_assoc, hT]; exact HO.out.2.1)
              have HSA := Lib.hid HO.out.2.2
              have s2 : ¬ 9223372036854775807 < L.length + (sb.takeL z).length := by
                have h1 := congrArg List.length HII.out
                rw [List.length_append, List.length_append] at h1
                omega
              have sc2 := str_cat L (sb.takeL z)
              clear HO hT k2 hbw2
              generalize sb.takeL z = T at *
              generalize sb.take z = sb3 at *
              go_wp2_with fail
              refine TK.mono ?_
              rintro e w3 ⟨⟨A9, c9, rfl, own9⟩, h3⟩
              have q9 := run_conv w3 A9 c9 T own9.rd
              unfold strV at q9
              have FIN : Aside (Pair w w3 Fa Fb p q sa sb3 ∧ (L ++ T) ++ sb3.o = K ∧ sa.o = []) := ⟨h3, HII.out, HSA.out⟩
              clear TK own9 h3 hz q1
              go_wp2
              go_roundg (len2 - (i3 + 1))
              case measure => omega
              case rel => exact ⟨i3 + 1, L ++ T, sb3, rfl, by go_num, by omega, Nat.le_refl _, FIN⟩
            · have hltz : ¬ (i3 : Int) < (len2 : Int) := by omega
              have TK := HO.out.1.takeB (K.length : Int)
              have hlim : lim (K.length : Int) sb.o.length = sb.o.length := by
                have h1 := congrArg List.length HO.out.2.1
                rw [List.length_append] at h1
                exact lim_all (by omega)
              have hT : sb.takeL (K.length : Int) = sb.o := by unfold Rng.takeL; rw [hlim]; simp
              have hT2 := Rng.take_o sb (K.length : Int)
              rw [hlim, List.drop_length] at hT2
              rw [hT] at TK
              have HSA := Lib.hid HO.out.2.2
              have HSB := Lib.hid hT2
              have s2 : ¬ 9223372036854775807 < L.length + sb.o.length := by
                have h1 := congrArg List.length HO.out.2.1
                rw [List.length_append] at h1
                omega
              have sc2 := str_cat L sb.o
              rw [HO.out.2.1] at sc2
              clear HO hT hT2 hlim
              generalize sb.o = T at *
              generalize sb.take (K.length : Int) = sb3 at *
              go_wp2_with fail
              refine TK.mono ?_
              rintro e w3 ⟨⟨A9, c9, rfl, own9⟩, h3⟩
              have q9 := run_conv w3 A9 c9 T own9.rd
              unfold strV at q9
              have LA := h3.lenA
              have LB := h3.lenB
              rw [HSA.out] at LA
              rw [HSB.out] at LB
              have FIN := Lib.hid h3.bel
              clear TK own9 h3
              go_wp2_with fail
              refine LA.mono ?_
              rintro e v9 ⟨rfl, rfl⟩
              go_wp2_with fail
              refine LB.mono ?_
              rintro e v9 ⟨rfl, rfl⟩
              clear LA LB
              go_wp2
              go_ret
              exact ⟨rfl, FIN.out⟩
theorem RingTakes_far (A A2 : Option Addr) (len c1 len2 c2 : Nat) (w : World) (hl : len ≤ 9223372036854775807) (hl2 : len2 ≤ 9223372036854775807) (h : 20 < len ∨ 200 < len2) :
    Calls Try.prog 6 #[.slice A len c1, .slice A2 len2 c2] w fun e w' => e = .returned (.bool true) ∧ Below w.heap.size w w' := by
  have G := Lib.hid h
  clear h
  by_cases g3 : (20 : Int) < (len : Int)
  · go_enter Try.func6, Try.ntmps6
    go_wp2_with fail
    refine (alive_calls w).mono ?_
    rintro e W ⟨rfl, hb⟩
    go_wp2
    go_ret
    exact ⟨rfl, hb⟩
  · have g4 : (200 : Int) < (len2 : Int) := by have := G.out; omega
    go_enter Try.func6, Try.ntmps6
    go_wp2_with fail
    refine (alive_calls w).mono ?_
    rintro e W ⟨rfl, hb⟩
    go_wp2
    go_ret
    exact ⟨rfl, hb⟩
theorem RingTakes_walk (a1 : Option Addr) (len1 cap1 : Nat) (a2 : Option Addr) (len2 cap2 : Nat) (z2 : List Int) (w : World) (h1 : IsRows w a1 len1 cap1)
    (h2 : (a2 = none ∧ len2 = 0 ∧ cap2 = 0 ∧ z2 = []) ∨ ∃ x, a2 = some x ∧ len2 ≤ cap2 ∧ cap2 ≤ maxLen ∧ z2.length = cap2 ∧ (∀ i, i < z2.length → w.cell? (x.add i) = some (.int .i64 (z2.getD i 0))) ∧ ∀ n ∈ z2, (Lit.int .i64 n).wf = true) :
    Calls Try.prog 6 #[.slice a1 len1 cap1, .slice a2 len2 cap2] w fun e w' => e = .returned (.bool true) ∧ Below w.heap.size w w' := by
  obtain ⟨ls, rfl, hc1, hm1, hr1⟩ := h1
  obtain ⟨ts, rfl, hc2, hm2, hr2⟩ := RdI.of_row h2
  unfold maxLen at hm1 hm2
  by_cases h : 20 < ls.length ∨ 200 < ts.length
  · exact RingTakes_far a1 a2 ls.length cap1 ts.length cap2 w (by omega) (by omega) h
  · exact RingTakes_main a1 cap1 ls a2 cap2 ts w hr1 (by omega) hr2 (by omega)
end Go.Proofs.Ytpjhehfhpeclhaa

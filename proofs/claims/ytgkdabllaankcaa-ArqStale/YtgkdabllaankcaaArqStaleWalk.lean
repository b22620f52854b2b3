/- The law ArqStale, walked. No condition. -/
import Derived.Test.YtgkdabllaankcaaStalePlain
import Derived.Test.YtgkdabllaankcaaCtlRefBytes3
import Derived.Test.YtgkdabllaankcaaIntRows
import Derived.Test.YtgkdabllaankcaaG2
import Derived.Deep.LoopGhost
import Derived.Lib.SlBytesConst
namespace Go.Proofs.Ytgkdabllaankcaa
open Go.RowKit
set_option linter.unusedVariables false

theorem sta_and (n : Int) (j : Nat) (hj : j ≤ 16) : bits .and .i64 n ((2 ^ j - 1 : Nat) : Int) = n % ((2 ^ j : Nat) : Int) := by
  have hp : 2 ^ j ≤ 65536 := by
    have := Nat.pow_le_pow_right (n := 2) (by decide) hj
    exact this
  have h1 : 1 ≤ 2 ^ j := Nat.one_le_two_pow
  have hd : (((2 ^ 64 : Nat) : Int)) % ((2 ^ j : Nat) : Int) = 0 := by
    have : (2 ^ 64 : Nat) = 2 ^ j * 2 ^ (64 - j) := by rw [← Nat.pow_add]; congr 1; omega
    rw [this]
    push_cast
    exact Int.mul_emod_right _ _
  rw [and_key, show (((2 ^ j - 1 : Nat) : Int) % ((2 ^ 64 : Nat) : Int)).toNat = 2 ^ j - 1 by omega, Nat.and_two_pow_sub_one_eq_mod]
  have h2 : (((n % ((2 ^ 64 : Nat) : Int)).toNat % 2 ^ j : Nat) : Int) = n % ((2 ^ j : Nat) : Int) := by
    rw [Int.natCast_emod, Int.toNat_of_nonneg (Int.emod_nonneg _ (by decide))]
    exact Int.emod_emod_of_dvd n (Int.dvd_of_emod_eq_zero hd)
  rw [h2, IntKind.wrap_i64]
  have g1 := Int.emod_nonneg n (show (((2 ^ j : Nat) : Int)) ≠ 0 by omega)
  have g2 := Int.emod_lt_of_pos n (show 0 < (((2 ^ j : Nat) : Int)) by omega)
  omega
theorem sta_and7 (n : Int) : bits .and .i64 n 7 = n % 8 := sta_and n 3 (by decide)
theorem sta_and65535 (n : Int) : bits .and .i64 n 65535 = n % 65536 := sta_and n 16 (by decide)
theorem sta_shape : (upS (shapeC 128 4 20)).lg.W = 4 ∧ (upS (shapeC 128 4 20)).lg.Q = 20 ∧ (upS (shapeC 128 4 20)).sz = 50 := by decide +kernel
section
variable {w v v' : World} {H : Nat → Prop}
set_option maxRecDepth 20000 in
set_option maxHeartbeats 4000000 in
theorem ArqStale_main (t n : Nat) (A : Option Addr) (cap : Nat) (l : List Int) (w : World) (hr : RdI w A l) (hl : l.length ≤ 40) (h0 : t < 65536) (h1 : t ≠ 1) (h2 : n ≤ 10) :
    Calls Try.prog 6 #[.int .i64 (t : Int), .int .i64 (n : Int), .slice A l.length cap] w fun e w' => e = .returned (.bool true) ∧ Below w.heap.size w w' := by
  have i0 : decide ((40 : Int) < (l.length : Int)) = false := decide_eq_false (by omega)
  have i1 : decide ((t : Int) < 0) = false := decide_eq_false (by omega)
  have i2 : decide ((65535 : Int) < (t : Int)) = false := decide_eq_false (by omega)
  have i3 : decide ((n : Int) < 0) = false := decide_eq_false (by omega)
  have i4 : decide ((10 : Int) < (n : Int)) = false := decide_eq_false (by omega)
  have i5 : decide ((t : Int) = 1) = false := decide_eq_false (by omega)
  have j0 : ¬ (40 : Int) < (l.length : Int) := by omega
  have j1 : ¬ (t : Int) < 0 := by omega
  have j2 : ¬ (65535 : Int) < (t : Int) := by omega
  have j3 : ¬ (n : Int) < 0 := by omega
  have j4 : ¬ (10 : Int) < (n : Int) := by omega
  have j5 : ¬ (t : Int) = 1 := by omega
  obtain ⟨e1, e2, e3⟩ := sta_shape
  have hRest := upS_rest (shapeC 128 4 20)
  have HV := Lib.hid (void_dm h0 h1)
  have HST := Lib.hid (fun ok => line_start (n := n) (void_dm h0 h1) (by decide : 20 ≤ 30) (by omega) ok)
  have HSR := Lib.hid (sent_room (n := n) 20 (by omega))
  unfold sentP at HST HSR
  have hand := sta_and65535 ((t : Int) - 1)
  have hand2 : bits .and .i64 (t : Int) 255 = (t : Int) % 256 := i64_and255 _
  have h8 := byte_hi h0
  have l8 := byte_lo t
  have HAH := Lib.hid (fun (s : Aq) (htg : s.tg = 1) => stale_ahead htg h0 h1)
  have HIN := Lib.hid (fun (s : Aq) (k : Nat) a b c d e => stale_in (s := s) (t := t) (k := k) a b c h0 h1 d e)
  have hhd : Aq.hd t = [UInt8.ofNat (t / 256), UInt8.ofNat t] := rfl
  rw [hhd] at HIN
  generalize UInt8.ofNat (t / 256) = hb at *
  generalize UInt8.ofNat t = lb at *
  clear hhd
  generalize zdm t = Z at *
  have hwt : IntKind.i64.wrap ((t : Int) - 1) = (t : Int) - 1 := by rw [IntKind.wrap_i64]; omega
  generalize hah : decide (((t : Int) - 1) % 65536 ≤ 32767) = ah at *
  generalize hL : l.length = L at *
  have HL := Lib.hid hL
  have HR := Lib.hid hr
  clear hL hr
  go_enter Try.func6, Try.ntmps6
  go_wp2_with fail
  refine (alive_calls w).mono ?_
  rintro e V ⟨rfl, hb0⟩
  have HB := Lib.hid hb0
  clear hb0
  have SC := shape_calls 128 4 20 V
  go_wp2_with fail
  refine SC.mono ?_
  rintro e w1 ⟨rfl, be1⟩
  have UP := up_calls (shapeC 128 4 20) (HB.out.trans (be1.mono HB.out.size))
  clear SC HB be1
  go_wp2_with fail
  refine UP.mono ?_
  rintro e w2 ⟨P, b, rfl, o⟩
  have H0 : Aside (PrOne (fun _ => False) w w2 P b ((upP (shapeC 128 4 20)).setA false (sentS (upS (shapeC 128 4 20)) (wins 0)))) := by
    rw [show wins 0 = [] from rfl, sentS_nil hRest, show (upP (shapeC 128 4 20)).setA false (upS (shapeC 128 4 20)) = upP (shapeC 128 4 20) from Pr.setA_self (upP (shapeC 128 4 20)) false]
    exact o
  clear o UP
  generalize upP (shapeC 128 4 20) = p0 at *
  generalize upS (shapeC 128 4 20) = s at *
  have hQ1 : 1 ≤ s.lg.Q := by omega
  go_wp2_with fail
  go_loopg [9] n (fun kx s13 wr => ∃ k : Nat, s13 = .int .i64 (k : Int) ∧ k ≤ n ∧ n - k ≤ kx ∧ Aside (PrOne (fun _ => False) w wr P b (p0.setA false (sentS s (wins k)))))
  case atStart => exact ⟨0, rfl, by omega, by omega, H0⟩
  case round =>
    clear H0
    obtain ⟨k, rfl, hk, hkx, HO⟩ := hrel
    by_cases hkn : k < n
    · have g0 : (k : Int) < (n : Int) := by omega
      have h := HO.out
      have k0 : wr.cell? ⟨P, 0, none⟩ = some (.pointer (some ⟨b false, 0, none⟩)) := h.ptr false
      have h' := h.beside (laid_below wr [UInt8.ofNat k])
      have st := sentS_give hRest hQ1 (L := wins k) (x := [UInt8.ofNat k]) (by rw [wins_len, e1, e2]; omega) (by rw [e3]; show 1 ≤ 50; decide)
      rw [← wins_next] at st
      have SN := h'.send false (by rw [Pr.setA_a, sentS_os, wins_len]; show min _ _ + (s.lg.W - _) ≤ _; omega) (by rw [Pr.setA_a]; show (wins _).length ≤ _; rw [wins_len]; omega) (some ⟨wr.heap.size, 0, none⟩) 1 [UInt8.ofNat k] (laid_rd wr _) (by show 1 ≤ 1048576; decide)
      rw [Pr.setA_a, st.1, st.2, Pr.setA_twice, laid_byte wr (by omega)] at SN
      clear h h' st HO
      go_wp2_with fail
      refine SN.mono ?_
      rintro e w3 ⟨rfl, h', -, -⟩
      have HR : Aside (PrOne (fun _ => False) w w3 P b (p0.setA false (sentS s (wins (k + 1))))) := h'
      clear SN h'
      go_wp2
      go_roundg (n - (k + 1))
      case measure => omega
      case rel => exact ⟨k + 1, by go_num, by omega, Nat.le_refl _, HR⟩
    · have hkE : k = n := by omega
      subst hkE
      have g0 : ¬ (k : Int) < (k : Int) := by omega
      have h := HO.out
      clear HO
      have okL : (sentS s (wins k)).Ok := by have := h.ok false; rw [Pr.setA_a] at this; exact this
      obtain ⟨ln, lw0, lw1⟩ := HST.out okL
      have HLN := Lib.hid (And.intro ln (show ((p0.setA false (sentS s (wins k))).collect.way false).length ≤ 4 ∧ ((p0.setA false (sentS s (wins k))).collect.way true).length ≤ 4 from by rw [lw0, lw1]; unfold itsI; rw [mapR_len]; exact ⟨by omega, by decide⟩))
      have CC := collect_calls h HSR.out
      generalize (p0.setA false (sentS s (wins k))).collect = q at *
      clear h okL HST HSR hRest e1 e2 e3 hQ1 ln lw0 lw1
      go_wp2_with fail
      refine CC.mono ?_
      rintro e w3 ⟨rfl, h3, -⟩
      have H3 : Aside (PrOne (fun _ => False) w w3 P b (both2 q Z 0)) := by rw [both2_zero]; exact h3
      clear CC h3
      go_wp2_with fail
      go_loopg [11] L (fun kx s8 wr => ∃ (j c : Nat), s8 = .int .i64 (j : Int) ∧ j ≤ L ∧ L - j ≤ kx ∧ c ≤ j ∧ Aside (PrOne (fun _ => False) w wr P b (both2 q Z c)))
      case atStart => exact ⟨0, 0, rfl, by omega, by omega, Nat.le_refl _, H3⟩
      case round =>
        clear H3
        obtain ⟨j, c, rfl, hj, hjx, hc, HO⟩ := hrel
        by_cases hjc : j < L
        · have g1 : (j : Int) < (L : Int) := by omega
          have g2 : (0 : Int) ≤ (j : Int) := by omega
          have h := HO.out
          obtain ⟨g, off, rfl, -, kc⟩ := (HR.out.below h.bel).at_ (k := j) (by rw [HL.out]; exact hjc)
          have and7 := sta_and7 (l.getD j 0)
          obtain ⟨y, hy8, hy⟩ : ∃ y : Nat, y < 8 ∧ l.getD j 0 % 8 = (y : Int) := ⟨(l.getD j 0 % 8).toNat, by omega, by omega⟩
          rw [hy] at and7
          generalize l.getD j 0 = z at *
          clear hy
          by_cases hy3 : y = 3 ∧ ah = true
          · obtain ⟨rfl, rfl⟩ := hy3
            clear h
            go_wp2
            go_roundg (L - (j + 1))
            case measure => omega
            case rel => exact ⟨j + 1, c, by go_num, by omega, Nat.le_refl _, by omega, HO⟩
          · by_cases e3 : y = 3
            · subst e3
              have hah0 : ah = false := by
                cases ah
                · rfl
                · exact absurd ⟨rfl, rfl⟩ hy3
              subst hah0
              have and7 : bits .and .i64 z 7 = 3 := and7
              have CB := fun v => refBytes_calls 3 0 0 false 128 v
              have hEl := enc_len 3 0 0 false 128
              obtain ⟨rm1, rm2⟩ := both2_room (Z := Z) HLN.out.1 ⟨by have := HLN.out.2.1; omega, by have := HLN.out.2.2; omega⟩ (by omega) (show c ≤ 100 by omega)
              have hin : ∀ i (d : Nat), ((q.a i).addZ Z d).input ([hb, lb] ++ enc 3 0 0 false 128) = (q.a i).addZ Z (d + if 3 = 5 then 1 else 0) := fun i d => by
                obtain ⟨u1, u2, u3, u4⟩ := HLN.out.1.up i
                have := HIN.out ((q.a i).addZ Z d) 3 u1 u2 u3 hy8 (fun e => hy3 ⟨e.1, by rw [← HAH.out ((q.a i).addZ Z d) u2]; exact e.2⟩); rw [Aq.addZ_addZ] at this; exact this
              have HE := Lib.hid (And.intro hEl (And.intro rm2 hin))
              clear hEl rm1 rm2 hin
              generalize enc 3 0 0 false 128 = E at *
              generalize hcd : (if 3 = 5 then 1 else 0 : Nat) = d at *
              have hd : d ≤ 1 := by rw [← hcd]; split <;> decide
              clear hcd
              obtain ⟨W1, hW1⟩ : ∃ W1, wr.alloc (.cells #[.int .u8 (hb.toNat : Int), .int .u8 (lb.toNat : Int)] 5) = W1 := ⟨_, rfl⟩
              have hs1 : wr.heap.size < W1.heap.size := by rw [← hW1]; simp
              have ow1 : Own W1 wr.heap.size (some ⟨wr.heap.size, 0, none⟩) 2 [hb, lb] := by rw [← hW1]; exact laid_own wr [hb, lb] (by simp)
              have be1 : Below wr.heap.size wr W1 := by rw [← hW1]; exact (Below.refl _ _).alloc (Nat.le_refl _) _
              have CB1 := CB W1
              have HW := Lib.hid (And.intro h (And.intro ow1 be1))
              clear h HO ow1 be1 hs1 CB
              go_wp2_with fail
              refine CB1.mono ?_
              rintro e v2 ⟨B, dd, rfl, rd2, be2⟩
              have be12 := HW.out.2.2.trans (be2.mono HW.out.2.2.size)
              obtain ⟨A3, c3, v3, r3, ow3, be3⟩ := run_app v2 wr.heap.size (some ⟨wr.heap.size, 0, none⟩) 2 [hb, lb] (HW.out.2.1.below be2) B dd E rd2 (by have := HE.out.1; simp; omega) be12.size
              have be13 := be12.trans be3
              have hcap := ow3.cap
              have h3 := HW.out.1.grow be13
              have k0 : v3.cell? ⟨P, 0, none⟩ = some (.pointer (some ⟨b false, 0, none⟩)) := h3.ptr false
              have hX : ∀ i, blk A3 = some i → (fun k => False ∨ (wr.heap.size ≤ k ∧ k < v3.heap.size)) i := fun i hi => .inr (ow3.blk_ge i hi)
              have IN1 := h3.input false (by show ((q.a false).addZ Z c).Room; exact HE.out.2.1 false) A3 c3 ([hb, lb] ++ E) ow3.rd (by have := HE.out.1; simp; omega) hcap.1 (by have := hcap.2; unfold maxLen at this; omega) hX
              rw [show ((both2 q Z c).a false).input ([hb, lb] ++ E) = (q.a false).addZ Z (c + d) from HE.out.2.2 false c] at IN1
              have HX := Lib.hid (And.intro hX (And.intro ow3.rd (And.intro hcap (show ([hb, lb] ++ E).length ≤ 90000 by have := HE.out.1; simp; omega))))
              have HP := Lib.hid IN1
              have HE2 := Lib.hid (And.intro (HE.out.2.1 true) (HE.out.2.2 true c))
              clear IN1 rd2 be2 be12 be3 be13 hcap ow3 HW CB1 hX h3 HE
              obtain ⟨X, hXX⟩ : ∃ X, [hb, lb] ++ E = X := ⟨_, rfl⟩
              rw [hXX] at r3 HP HX HE2
              clear hXX
              have r3' : ∀ ty, (Builtin.append_ #[39, 39] ty #[.slice (some ⟨wr.heap.size, 0, none⟩) 2 2, .slice B E.length dd]).run Try.prog v2 = .ok (.slice A3 X.length c3) v3 := r3
              clear r3
              go_wp2_with (first | (at_builtin; refine Lib.wpList_append_run _ rfl _ _ _ _ rfl _ _ rfl rfl _ _ (r3' _) ?_) | fail)
              refine HP.out.mono ?_
              rintro e v4 ⟨rfl, o4, K4, -⟩
              have k1 : v4.cell? ⟨P, 1, none⟩ = some (.pointer (some ⟨b true, 0, none⟩)) := o4.ptr true
              obtain ⟨F4, on4, hF4, -⟩ := K4
              have rd4 : Rd v4 A3 X := HX.out.2.1.only on4 (fun k hk hF => hF4 k hF (HX.out.1 k hk))
              have IN2 := o4.input true (by show ((q.a true).addZ Z c).Room; exact HE2.out.1) A3 c3 X rd4 HX.out.2.2.2 HX.out.2.2.1.1 (by have := HX.out.2.2.1.2; unfold maxLen at this; omega) HX.out.1
              rw [show (((both2 q Z c).setA false ((q.a false).addZ Z (c + d))).a true).input X = (q.a true).addZ Z (c + d) from HE2.out.2, both2_next] at IN2
              clear HP o4 on4 hF4 rd4 r3' HX HE2 k0
              go_wp2_with fail
              refine IN2.mono ?_
              rintro e v5 ⟨rfl, o5, -, -⟩
              have HS : Aside (PrOne (fun _ => False) w v5 P b (both2 q Z (c + d))) := o5.less (fun _ h => h.elim)
              clear IN2 o5 k1
              go_wp2
              go_roundg (L - (j + 1))
              case measure => omega
              case rel => exact ⟨j + 1, c + d, by go_num, by omega, Nat.le_refl _, by omega, HS⟩
            · have hn3 : ¬ (y : Int) = 3 := by omega
              have hd3 : decide ((y : Int) = 3) = false := decide_eq_false hn3
              clear e3
              have CB := fun v => refBytes_calls (y : Int) 0 0 false 128 v
              have hEl := enc_len (y : Int) 0 0 false 128
              obtain ⟨rm1, rm2⟩ := both2_room (Z := Z) HLN.out.1 ⟨by have := HLN.out.2.1; omega, by have := HLN.out.2.2; omega⟩ (by omega) (show c ≤ 100 by omega)
              have hin : ∀ i (d : Nat), ((q.a i).addZ Z d).input ([hb, lb] ++ enc (y : Int) 0 0 false 128) = (q.a i).addZ Z (d + if y = 5 then 1 else 0) := fun i d => by
                obtain ⟨u1, u2, u3, u4⟩ := HLN.out.1.up i
                rw [HIN.out ((q.a i).addZ Z d) y u1 u2 u3 hy8 (fun e => hy3 ⟨e.1, by rw [← HAH.out ((q.a i).addZ Z d) u2]; exact e.2⟩), Aq.addZ_addZ]
              have HE := Lib.hid (And.intro hEl (And.intro rm2 hin))
              clear hEl rm1 rm2 hin
              generalize enc (y : Int) 0 0 false 128 = E at *
              generalize hcd : (if y = 5 then 1 else 0 : Nat) = d at *
              have hd : d ≤ 1 := by rw [← hcd]; split <;> decide
              clear hcd
              obtain ⟨W1, hW1⟩ : ∃ W1, wr.alloc (.cells #[.int .u8 (hb.toNat : Int), .int .u8 (lb.toNat : Int)] 5) = W1 := ⟨_, rfl⟩
              have hs1 : wr.heap.size < W1.heap.size := by rw [← hW1]; simp
              have ow1 : Own W1 wr.heap.size (some ⟨wr.heap.size, 0, none⟩) 2 [hb, lb] := by rw [← hW1]; exact laid_own wr [hb, lb] (by simp)
              have be1 : Below wr.heap.size wr W1 := by rw [← hW1]; exact (Below.refl _ _).alloc (Nat.le_refl _) _
              have CB1 := CB W1
              have HW := Lib.hid (And.intro h (And.intro ow1 be1))
              clear h HO ow1 be1 hs1 CB
              go_wp2_with fail
              refine CB1.mono ?_
              rintro e v2 ⟨B, dd, rfl, rd2, be2⟩
              have be12 := HW.out.2.2.trans (be2.mono HW.out.2.2.size)
              obtain ⟨A3, c3, v3, r3, ow3, be3⟩ := run_app v2 wr.heap.size (some ⟨wr.heap.size, 0, none⟩) 2 [hb, lb] (HW.out.2.1.below be2) B dd E rd2 (by have := HE.out.1; simp; omega) be12.size
              have be13 := be12.trans be3
              have hcap := ow3.cap
              have h3 := HW.out.1.grow be13
              have k0 : v3.cell? ⟨P, 0, none⟩ = some (.pointer (some ⟨b false, 0, none⟩)) := h3.ptr false
              have hX : ∀ i, blk A3 = some i → (fun k => False ∨ (wr.heap.size ≤ k ∧ k < v3.heap.size)) i := fun i hi => .inr (ow3.blk_ge i hi)
              have IN1 := h3.input false (by show ((q.a false).addZ Z c).Room; exact HE.out.2.1 false) A3 c3 ([hb, lb] ++ E) ow3.rd (by have := HE.out.1; simp; omega) hcap.1 (by have := hcap.2; unfold maxLen at this; omega) hX
              rw [show ((both2 q Z c).a false).input ([hb, lb] ++ E) = (q.a false).addZ Z (c + d) from HE.out.2.2 false c] at IN1
              have HX := Lib.hid (And.intro hX (And.intro ow3.rd (And.intro hcap (show ([hb, lb] ++ E).length ≤ 90000 by have := HE.out.1; simp; omega))))
              have HP := Lib.hid IN1
              have HE2 := Lib.hid (And.intro (HE.out.2.1 true) (HE.out.2.2 true c))
              clear IN1 rd2 be2 be12 be3 be13 hcap ow3 HW CB1 hX h3 HE
              obtain ⟨X, hXX⟩ : ∃ X, [hb, lb] ++ E = X := ⟨_, rfl⟩
              rw [hXX] at r3 HP HX HE2
              clear hXX
              have r3' : ∀ ty, (Builtin.append_ #[39, 39] ty #[.slice (some ⟨wr.heap.size, 0, none⟩) 2 2, .slice B E.length dd]).run Try.prog v2 = .ok (.slice A3 X.length c3) v3 := r3
              clear r3
              go_wp2_with (first | (at_builtin; refine Lib.wpList_append_run _ rfl _ _ _ _ rfl _ _ rfl rfl _ _ (r3' _) ?_) | fail)
              refine HP.out.mono ?_
              rintro e v4 ⟨rfl, o4, K4, -⟩
              have k1 : v4.cell? ⟨P, 1, none⟩ = some (.pointer (some ⟨b true, 0, none⟩)) := o4.ptr true
              obtain ⟨F4, on4, hF4, -⟩ := K4
              have rd4 : Rd v4 A3 X := HX.out.2.1.only on4 (fun k hk hF => hF4 k hF (HX.out.1 k hk))
              have IN2 := o4.input true (by show ((q.a true).addZ Z c).Room; exact HE2.out.1) A3 c3 X rd4 HX.out.2.2.2 HX.out.2.2.1.1 (by have := HX.out.2.2.1.2; unfold maxLen at this; omega) HX.out.1
              rw [show (((both2 q Z c).setA false ((q.a false).addZ Z (c + d))).a true).input X = (q.a true).addZ Z (c + d) from HE2.out.2, both2_next] at IN2
              clear HP o4 on4 hF4 rd4 r3' HX HE2 k0
              go_wp2_with fail
              refine IN2.mono ?_
              rintro e v5 ⟨rfl, o5, -, -⟩
              have HS : Aside (PrOne (fun _ => False) w v5 P b (both2 q Z (c + d))) := o5.less (fun _ h => h.elim)
              clear IN2 o5 k1
              go_wp2
              go_roundg (L - (j + 1))
              case measure => omega
              case rel => exact ⟨j + 1, c + d, by go_num, by omega, Nat.le_refl _, by omega, HS⟩
        · have hjE : j = L := by omega
          subst hjE
          have g1 : ¬ (j : Int) < (j : Int) := by omega
          have h := HO.out
          obtain ⟨rm1, rm2⟩ := both2_room (Z := Z) HLN.out.1 ⟨by have := HLN.out.2.1; omega, by have := HLN.out.2.2; omega⟩ (by omega) (show c ≤ 100 by omega)
          obtain ⟨u, hu, hJ⟩ := both2_begin (Z := Z) HLN.out.1 HLN.out.2 h2 (show c ≤ 40 by omega)
          have CC := collect_calls h rm1
          have HJ := Lib.hid (And.intro (LineJ.flow HV.out (wins_small k) (by rw [wins_len]; omega)) (And.intro hu (Flow.begin hJ)))
          clear h HO rm1 rm2 hu hJ HLN
          generalize (both2 q Z c).collect = r at *
          go_wp2_with fail
          refine CC.mono ?_
          rintro e w7 ⟨rfl, h7, -⟩
          have H7 : Aside (PrOne (fun _ => False) w w7 P b r ∧ Rounds (LineJ (wins k) Z) u 0 r) := ⟨h7, HJ.out.2.2⟩
          have HJ' := Lib.hid (And.intro HJ.out.1 HJ.out.2.1)
          clear CC h7 HJ HIN HAH
          go_wp2_with fail
          go_loopg [14] 300 (fun kx s9 wr => ∃ (i : Nat) (r : Pr), s9 = .int .i64 (i : Int) ∧ i ≤ 300 ∧ 300 - i ≤ kx ∧ Aside (PrOne (fun _ => False) w wr P b r ∧ Rounds (LineJ (wins k) Z) u i r))
          case atStart => exact ⟨0, r, rfl, by omega, by omega, H7⟩
          case round =>
            clear H7
            clear r
            obtain ⟨i, r, rfl, hi, hix, HO⟩ := hrel
            by_cases hi2 : i < 300
            · have g2 : (i : Int) < 300 := by omega
              obtain ⟨h, hr⟩ := HO.out
              obtain ⟨r1, r2⟩ := hr.room HJ'.out.1
              have HN := Lib.hid (And.intro r2 (HJ'.out.1.round hr))
              have CA := carry_zero h false r1
              clear h hr r1 r2 HO
              go_wp2_with fail
              refine CA.mono ?_
              rintro e w8 ⟨rfl, h8, -⟩
              have CB := carry_one h8 false HN.out.1
              clear CA h8
              go_wp2_with fail
              refine CB.mono ?_
              rintro e w9 ⟨rfl, h9, -⟩
              have HS : Aside (PrOne (fun _ => False) w w9 P b ((r.carry false false).carry true false) ∧ Rounds (LineJ (wins k) Z) u (i + 1) ((r.carry false false).carry true false)) := ⟨h9, HN.out.2⟩
              clear CB h9 HN
              go_wp2
              go_roundg (300 - (i + 1))
              case measure => omega
              case rel => exact ⟨i + 1, _, by go_num, by omega, Nat.le_refl _, HS⟩
            · have hiE : i = 300 := by omega
              subst hiE
              have g2 : ¬ ((300 : Nat) : Int) < 300 := by omega
              obtain ⟨h, hr⟩ := HO.out
              obtain ⟨u', ⟨j1, k1, ln, -, -⟩, hw⟩ := HJ'.out.1.done hr HJ'.out.2
              obtain ⟨f1, f2⟩ := ln.rest hw
              rw [wins_len] at f1 f2
              have f3 : (r.a false).sn = k := ln.a.sn.trans (wins_len k)
              have f4 : (r.a false).ak = k := ln.a.ak.trans f1
              have f5 : (r.a false).lo = 0 := ln.a.lo
              have f6 : (r.heard true).length = k := ln.heard.trans f2
              have f7 : r.downs = 0 := ln.downs
              have ks : wr.cell? ⟨P, 0, none⟩ = some (.pointer (some ⟨b false, 0, none⟩)) := h.ptr false
              have CN := h.counts false
              have HF := Lib.hid (And.intro h (And.intro ln.a.st ln.b.st))
              rw [f3, f4, f5] at CN
              clear f1 f2 f3 f4 f5 hw h hr HO HJ' ln
              go_wp2_with fail
              refine CN.mono ?_
              rintro e w8 ⟨rfl, nq, rfl⟩
              have h := HF.out.1.drewN nq
              have S0 := h.state false
              have S1 := h.state true
              rw [HF.out.2.1] at S0
              rw [HF.out.2.2] at S1
              have k5 : (wr.drewN nq).cell? ⟨P, 0, none⟩ = some (.pointer (some ⟨b false, 0, none⟩)) := h.ptr false
              have k6 : (wr.drewN nq).cell? ⟨P, 1, none⟩ = some (.pointer (some ⟨b true, 0, none⟩)) := h.ptr true
              obtain ⟨B, d, k7⟩ := h.cHeard true
              rw [f6] at k7
              have k7 : (wr.drewN nq).cell? ⟨P, 5, none⟩ = some (.slice B k d) := k7
              have k8 : (wr.drewN nq).cell? ⟨P, 8, none⟩ = some (.int .i64 0) := by
                have := h.cDowns
                rw [f7] at this
                exact this
              have FI := Lib.hid h.bel
              clear CN h HF ks f6 f7
              generalize wr.drewN nq = W at *
              go_wp2_with fail
              refine S0.mono ?_
              rintro e w6 ⟨rfl, hv⟩
              obtain rfl := hv.symm
              go_wp2_with fail
              refine S1.mono ?_
              rintro e w6 ⟨rfl, hv⟩
              obtain rfl := hv.symm
              go_wp2
              go_ret
              exact ⟨rfl, FI.out⟩
set_option maxRecDepth 20000 in
set_option maxHeartbeats 2000000 in
/-- outside the bounds -/
theorem ArqStale_far (a0 a1 : Int) (A : Option Addr) (len cap : Nat) (h : ¬ (0 ≤ a0 ∧ a0 ≤ 65535 ∧ ¬ a0 = 1 ∧ len ≤ 40 ∧ 0 ≤ a1 ∧ a1 ≤ 10)) (hlen : len ≤ 9223372036854775807) (w : World) :
    Calls Try.prog 6 #[.int .i64 a0, .int .i64 a1, .slice A len cap] w fun e w' => e = .returned (.bool true) ∧ Below w.heap.size w w' := by
  have key : a0 < 0 ∨ (¬ a0 < 0 ∧ 65535 < a0) ∨ (¬ a0 < 0 ∧ ¬ 65535 < a0 ∧ a0 = 1) ∨ (¬ a0 < 0 ∧ ¬ 65535 < a0 ∧ ¬ a0 = 1 ∧ (40 : Int) < (len : Int)) ∨ (¬ a0 < 0 ∧ ¬ 65535 < a0 ∧ ¬ a0 = 1 ∧ ¬ (40 : Int) < (len : Int) ∧ a1 < 0) ∨ (¬ a0 < 0 ∧ ¬ 65535 < a0 ∧ ¬ a0 = 1 ∧ ¬ (40 : Int) < (len : Int) ∧ ¬ a1 < 0 ∧ 10 < a1) := by omega
  clear h
  rcases key with g1 | ⟨g1, g2⟩ | ⟨g1, g2, g3⟩ | ⟨g1, g2, g3, g4⟩ | ⟨g1, g2, g3, g4, g5⟩ | ⟨g1, g2, g3, g4, g5, g6⟩
  case inr.inr.inl =>
    subst g3
    go_enter Try.func6, Try.ntmps6
    go_wp2_with fail
    refine (alive_calls w).mono ?_
    rintro e V ⟨rfl, hb⟩
    go_wp2
    go_ret
    exact ⟨rfl, hb⟩
  all_goals
    go_enter Try.func6, Try.ntmps6
    go_wp2_with fail
    refine (alive_calls w).mono ?_
    rintro e V ⟨rfl, hb⟩
    go_wp2
    go_ret
    exact ⟨rfl, hb⟩
theorem ArqStale_walk (a0 a1 : Int) (A : Option Addr) (len cap : Nat) (zs : List Int) (w : World) (w0 : (Lit.int .i64 a0).wf = true) (w1 : (Lit.int .i64 a1).wf = true)
    (h : (A = none ∧ len = 0 ∧ cap = 0 ∧ zs = []) ∨ ∃ x, A = some x ∧ len ≤ cap ∧ cap ≤ maxLen ∧ zs.length = cap ∧ (∀ i, i < zs.length → w.cell? (x.add i) = some (.int .i64 (zs.getD i 0))) ∧ ∀ n ∈ zs, (Lit.int .i64 n).wf = true) :
    Calls Try.prog 6 #[.int .i64 a0, .int .i64 a1, .slice A len cap] w fun e w' => e = .returned (.bool true) ∧ Below w.heap.size w w' := by
  obtain ⟨l, rfl, k1, k2, hr⟩ := RdI.of_row h
  by_cases h : 0 ≤ a0 ∧ a0 ≤ 65535 ∧ ¬ a0 = 1 ∧ l.length ≤ 40 ∧ 0 ≤ a1 ∧ a1 ≤ 10
  · obtain ⟨h1, h2, h3, h4, h5, h6⟩ := h
    obtain ⟨t, rfl⟩ : ∃ n : Nat, a0 = n := ⟨a0.toNat, by omega⟩
    obtain ⟨n, rfl⟩ : ∃ n : Nat, a1 = n := ⟨a1.toNat, by omega⟩
    exact ArqStale_main t n A cap l w hr h4 (by omega) (by omega) (by omega)
  · exact ArqStale_far a0 a1 A l.length cap h (by unfold maxLen at k2; omega) w
end
end Go.Proofs.Ytgkdabllaankcaa

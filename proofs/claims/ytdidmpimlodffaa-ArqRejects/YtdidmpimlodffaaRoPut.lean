/- Put of an order of the reference. Condition: the number is one of 64 bits, the message reads as its octets, fewer than a hundred thousand messages. -/
import Derived.Test.YtdidmpimlodffaaRoRound
import Derived.Test.YtdidmpimlodffaaSerRefNum
import Derived.Test.YtdidmpimlodffaaG3
import Derived.Deep.RegionLaw
import Derived.StillTailTactics
import Derived.Deep.DeepCutAuto
namespace Go.Proofs.Ytdidmpimlodffaa
open Go.RowKit
set_option linter.unusedVariables false

theorem roMod_calls (n M : Int) (w : World) (h1 : I64 n) (h3 : 1 ≤ M) (h4 : M ≤ 32768) :
    Calls Try.prog 55 #[.int .i64 n, .int .i64 M] w fun e w' => e = .returned (.int .i64 (n % M)) ∧ w' = w := by
  refine (refMod_calls n M w h1).mono ?_
  rintro e w' ⟨rfl, rfl⟩
  rw [slim_mid (by omega) (by omega)]
  exact ⟨rfl, rfl⟩
set_option maxHeartbeats 400000 in
theorem roDist_calls (a k M : Int) (w : World) (h1 : I64 a) (h2 : I64 k) (h3 : 1 ≤ M) (h4 : M ≤ 32768) :
    Calls Try.prog 56 #[.int .i64 a, .int .i64 k, .int .i64 M] w fun e w' => e = .returned (.int .i64 ((k - a) % M)) ∧ w' = w := by
  have g1 := mod_lo a M h3
  have g2 := mod_hi a M h3
  have g3 := mod_lo k M h3
  have g4 := mod_hi k M h3
  go_enter Try.func56, Try.ntmps56
  go_wp2_with fail
  refine (roMod_calls k M _ h2 h3 h4).mono ?_
  rintro e w' ⟨rfl, rfl⟩
  go_wp2_with fail
  refine (roMod_calls a M _ h1 h3 h4).mono ?_
  rintro e w' ⟨rfl, rfl⟩
  go_wp2_with fail
  refine (roMod_calls (k % M - a % M) M _ (by unfold I64; omega) h3 h4).mono ?_
  rintro e w' ⟨rfl, rfl⟩
  go_wp2
  go_ret
  exact ⟨rfl, rfl⟩
theorem roNxt_calls (k M : Nat) (w : World) (h2 : k < M) (h3 : 1 ≤ M) (h4 : M ≤ 32768) :
    Calls Try.prog 58 #[.int .i64 (k : Int), .int .i64 (M : Int)] w fun e w' => e = .returned (.int .i64 (((k + 1) % M : Nat) : Int)) ∧ w' = w := by
  refine (refNext_calls k M w (by unfold I64; omega)).mono ?_
  rintro e w' ⟨rfl, rfl⟩
  unfold snxt
  rw [slim_mid (by omega) (by omega)]
  refine ⟨ret_int ?_, rfl⟩
  rw [Int.emod_eq_of_lt (a := (k : Int)) (by omega) (by omega), Int.natCast_emod]
  rfl
theorem wrap_small {y : Nat} (h : y ≤ 200000) : wrap64 (y : Int) = (y : Int) := by unfold wrap64; omega
theorem wrap_small2 {y : Nat} (h : y ≤ 200000) : IntKind.i64.wrap (y : Int) = (y : Int) := by rw [IntKind.wrap_i64]; omega
/-- how it stands in the loop -/
def RAL (w : World) (F : Nat → Prop) (b : Nat) (s T : Od) (wr : World) (k n : Nat) : Prop :=
  ∃ s' : Od, s'.k.length = k ∧ Od.adv (k + 1) s' = T ∧ RoTurn F b s' w wr ∧ s'.all = s.all ∧ s'.r.length = s.r.length + n
section
variable {w : World} {F : Nat → Prop} {b : Nat} {s : Od}
theorem fnd_none {l : List (Int × List UInt8)} {n : Int} (h : lk l n = none) : fnd l n = -1 := by unfold fnd; rw [h]; rfl
theorem fnd_some {l : List (Int × List UInt8)} {n : Int} {x : List UInt8} (h : lk l n = some x) : fnd l n = (fi l n : Int) ∧ fi l n < l.length ∧ l.getD (fi l n) (0, []) = (n, x) := by
  refine ⟨by unfold fnd; rw [h]; rfl, fi_lt h, ?_⟩
  rw [List.getD_eq_getElem?_getD, fi_get h]
  rfl
set_option maxRecDepth 20000 in
set_option maxHeartbeats 2000000 in
theorem roPut_calls (h : RoP w F b s) (hall : s.all ≤ 99999) (n : Int) (hn : I64 n) (X : Option Addr) (c9 : Nat) (x : List UInt8) (hr : Rd w X x) (hx : x.length ≤ 1048576) :
    Calls Try.prog 34 #[.pointer (some ⟨b, 0, none⟩), .int .i64 n, .slice X x.length c9] w fun r w' => r = .returned (.int .i64 (s.putN n x)) ∧ RoTurn F b (s.put n x) w w' := by
  have ok := h.2
  have hm8 := ok.m8
  have hm9 := ok.m9
  have he9 := ok.e9
  have q0 : 0 ≤ n % (s.m : Int) := Int.emod_nonneg _ (by omega)
  have q1 : n % (s.m : Int) < (s.m : Int) := Int.emod_lt_of_pos _ (by omega)
  have MO := fun v => roMod_calls n (s.m : Int) v hn (by omega) (by omega)
  have DI := fun v => roDist_calls (s.e : Int) (n % (s.m : Int)) (s.m : Int) v (by unfold I64; omega) (by unfold I64; omega) (by omega) (by omega)
  have hdd : (n % (s.m : Int) - (s.e : Int)) % (s.m : Int) = (n - (s.e : Int)) % (s.m : Int) := by rw [Int.sub_emod, Int.emod_emod, ← Int.sub_emod]
  rw [hdd] at DI
  cases hf : s.far n
  · have gf : ¬ (s.W : Int) ≤ (n - (s.e : Int)) % (s.m : Int) := by unfold Od.far at hf; simp at hf; omega
    have FD := fun v (hv : RoRaw v F b s.m s.W s.e s.k s.r) => roFind_calls hv (by unfold Od.all at hall; omega) (n % (s.m : Int))
    cases hh : s.had n
    · obtain ⟨e1, e2⟩ := Od.put_new (x := x) hf hh
      rw [e1, e2]
      have hnone := Od.had_none hh
      have okA := Lib.hid (ok.add hh hx)
      have hkl : s.k.length ≤ 100000 := by unfold Od.all at hall; omega
      have ADD := Lib.hid (fun q : Nat => ro_add (h.1.drewN q) hkl (n % (s.m : Int)) X c9 (hr.drewN q) hx)
      have HLT := Lib.hid h.lt
      have HB := Lib.hid h.1.mem
      have HALL := Lib.hid (show (s.add n x).all ≤ 100000 by unfold Od.add Od.all; unfold Od.all at hall; simp only [List.length_append, List.length_singleton]; omega)
      have hrr : (s.add n x).r.length = s.r.length := rfl
      rw [fnd_none hnone] at FD
      have FD' := fun q => FD (w.drewN q) (h.1.drewN q)
      obtain ⟨T, hT⟩ : ∃ T, T = Od.adv ((s.add n x).k.length + 1) (s.add n x) := ⟨_, rfl⟩
      rw [← hT]
      have MK := Lib.hid (show ∀ V, RoTurn F b (s.add n x) w V → RAL w F b (s.add n x) T V (s.add n x).k.length 0 from fun V hV => ⟨s.add n x, rfl, hT.symm, hV, rfl, rfl⟩)
      have SH := Lib.hid (show (s.add n x).m = s.m ∧ (s.add n x).W = s.W ∧ (s.add n x).e = s.e ∧ (s.add n x).k = s.k ++ [(n % (s.m : Int), x)] ∧ (s.add n x).r = s.r from ⟨rfl, rfl, rfl, rfl, rfl⟩)
      have TU := Lib.hid (show ∀ V q, RoRaw V (more F (w.drewN q) V) b s.m s.W s.e (s.k ++ [(n % (s.m : Int), x)]) s.r → Only F (w.drewN q) V → RoTurn F b (s.add n x) w V from fun V q hr on => ⟨⟨hr, okA.out⟩, only_from_drewN on⟩)
      obtain ⟨⟨A, c, cs, B, d, vs, h1, _⟩, _⟩ := h
      obtain ⟨c0, c1, c2, c3, c4⟩ := rocell h1
      clear h1 hh hf ok hn c4 c3 e1 e2 hr hx hall q0 q1 hm8 hm9 he9 hdd FD hT hnone hkl
      have hsr : s.r.length = (s.add n x).r.length := rfl
      rw [hsr]
      clear hrr hsr
      generalize hs1 : s.add n x = s1 at *
      clear hs1
      generalize (n - (s.e : Int)) % (s.m : Int) = dd at *
      generalize n % (s.m : Int) = z at *
      generalize s.m = M at *
      generalize s.W = W at *
      generalize s.e = e at *
      generalize s.k = l at *
      generalize s.r = r0 at *
      generalize x.length = xl at *
      go_enter Try.func34, Try.ntmps34
      go_wp2_with fail
      refine (MO _).mono ?_
      rintro e w' ⟨rfl, hv⟩
      obtain rfl := hv.symm
      go_wp2_with fail
      go_quiet (first | (go_at_call 56; exact Calls.quiet_of_same (DI _)))
      have FE := FD' nq
      clear FD'
      go_wp2_with fail
      refine FE.mono ?_
      rintro e w' ⟨rfl, rfl⟩
      obtain ⟨A, c, k1, A1, c1', V1, r1, k2, k3, A3, c3', V3, r3, k4, f3, raw, on⟩ := ADD.out (nq + 1)
      have TT := Lib.hid (TU.out _ _ raw on)
      have d0 : w.cell? ⟨b, 3, none⟩ = some (.slice A l.length c) := k1
      clear ADD TU raw on k1 FE DI MO c0 c1 c2 SH okA gf
      have FIRST := Lib.hid (MK.out _ TT.out)
      obtain ⟨V9, hV9⟩ : ∃ V9, V3.setCell ⟨b, 3, none⟩ (.slice A3 (l.length + 1) c3') = V9 := ⟨_, rfl⟩
      rw [hV9] at FIRST TT
      go_upto_region 6 with (fail)
      go_cut [44] (fun s44 wx => s44 = .slice A3 (l.length + 1) c3' ∧ V9 = wx)
      case first =>
        go_region_law (first
          | ((with_reducible refine step_append_run _ ?_ (.const (.slice none 0 0)) (.tmp 40) _ _ ?_ _ _ ?_ ?_ _ _ (r1 _) ?_); rfl; rfl; (focus (first | (simp [Act.eval]; done) | (simp [Act.eval, Act.put]; done))); (focus (first | (simp [Act.eval]; done) | (simp [Act.eval, Act.put]; done))))
          | ((with_reducible refine step_append_run _ ?_ (.tmp 38) (.tmp 43) _ _ ?_ _ _ ?_ ?_ _ _ (r3 _) ?_); rfl; rfl; (focus (first | (simp [Act.eval]; done) | (simp [Act.eval, Act.put]; done))); (focus (first | (simp [Act.eval]; done) | (simp [Act.eval, Act.put]; done)))))
        all_goals
          go_wp2_with fail
          go_meet
          case rel => exact ⟨rfl, rfl⟩
      case rest =>
        obtain ⟨rfl, rfl⟩ := hcut
        clear hV9 r1 r3 k2 k3 k4 f3 d0 TT
        have H0 : Aside (RAL w F b s1 T V9 s1.k.length 0) := FIRST.out
        clear FIRST MK
        generalize s1.k.length = K0 at *
        go_wp2_with fail
        go_loopg [7] (K0 + 1) (fun kx s7 wr => ∃ (k n : Nat), s7 = .int .i64 (n : Int) ∧ k + 1 = kx ∧ Aside (RAL w F b s1 T wr k n))
        case atStart => exact ⟨K0, 0, rfl, rfl, H0.out⟩
        case round =>
          clear H0
          obtain ⟨k, n, rfl, rfl, HO⟩ := hrel
          obtain ⟨s', hk, hT, ht, ha, hn⟩ := HO.out
          clear HO
          have ok := ht.1.2
          have he := ok.e9
          have hm9 := ok.m9
          have hall := HALL.out
          have hrl : s'.r.length ≤ 100000 := by unfold Od.all at ha hall; omega
          have hkl : s'.k.length ≤ 100000 := by unfold Od.all at ha hall; omega
          have FD := roFind_calls ht.1.1 hkl (s'.e : Int)
          cases hx : lk s'.k (s'.e : Int) with
          | none =>
            have hTn : s' = T := by rw [← hT]; exact (Od.adv_none hx).symm
            rw [fnd_none hx] at FD
            obtain ⟨A, c, cs, B, d, vs, h1, _⟩ := ht.1.1
            obtain ⟨c0, c1, c2, c3, c4⟩ := rocell h1
            have FI := Lib.hid ht
            rw [hTn] at FI
            have HN := Lib.hid (show (T.r.length : Int) - (s1.r.length : Int) = (n : Int) by rw [← hTn]; omega)
            clear h1 c0 c1 c4 hx hT ht ha hn ok he hall hrl hm9 hTn hk hkl c3
            generalize s'.e = x at *
            go_wp2_with fail
            refine FD.mono ?_
            rintro e w' ⟨rfl, hv⟩
            obtain rfl := hv.symm
            clear hv
            go_wp2
            go_ret
            exact ⟨ret_int HN.out.symm, FI.out⟩
          | some x =>
            have OKS := Lib.hid (ok.step hx)
            obtain ⟨ef, hi, hg⟩ := fnd_some hx
            rw [ef] at FD
            have ST := Lib.hid (Od.step_all hx)
            have DL := Lib.hid (dl_cut hx)
            have DN := Lib.hid (show (dl s'.k (s'.e : Int)).length = s'.k.length - 1 by have := dl_len_some hx; omega)
            have ADVS := Lib.hid (show Od.adv (k + 1) s' = Od.adv k (s'.step x) from Od.adv_some hx)
            have NX := fun v => roNxt_calls s'.e s'.m v he (by omega) hm9
            obtain ⟨A, c, k3, hc1, hc2, hAC⟩ := ro_kept ht.1.1
            have hcm : c ≤ 9223372036854775807 := by unfold maxLen at hc2; omega
            obtain ⟨ix, hix⟩ : ∃ ix, fi s'.k (s'.e : Int) = ix := ⟨_, rfl⟩
            rw [hix] at FD hi hg
            have DL' := Lib.hid (show dl s'.k (s'.e : Int) = s'.k.take ix ++ s'.k.drop (ix + 1) by rw [DL.out, hix])
            have hnb : n ≤ 100000 := by omega
            rcases hAC with ⟨_, hA0, _⟩ | ⟨g, off, rfl, hgs, hcl⟩
            · omega
            obtain ⟨_, B, d, kb, pc⟩ := hcl ix hi
            rw [hg] at kb pc
            simp only at kb pc
            obtain ⟨A4, c4, k4, k5, A5, c5, V4, r4, k6, z6, raw1, on1⟩ := ro_push (ht.1.1.drewN 1) (by omega) (C := B) (d9 := d) (x := x) pc
            obtain ⟨V5, hV5⟩ : ∃ V5, V4.setCell ⟨b, 4, none⟩ (.slice A5 (s'.r.length + 1) c5) = V5 := ⟨_, rfl⟩
            rw [hV5] at raw1 on1
            have R1 := Lib.hid (ro_trans HLT.out ht.2 raw1 (only_from_drewN on1))
            have KP := Lib.hid (ro_kept R1.out.1)
            have c2 := (ro_setX ht.1.1 0).2.1
            have e4 : wr.cell? ⟨b, 4, none⟩ = some (.slice A4 s'.r.length c4) := k4
            have HS := Lib.hid (show s'.k.length = k ∧ Od.adv (k + 1) s' = T ∧ s'.all = s1.all ∧ s'.r.length = s1.r.length + n from ⟨hk, hT, ha, hn⟩)
            have hik : (0 : Int) ≤ (ix : Int) := by omega
            have hil : (ix : Int) < (s'.k.length : Int) := by omega
            have hixc : (ix : Int) ≤ (c : Int) := by omega
            clear hk hT ht ha hn ok hx hall hcl pc raw1 on1 hg hix DL k4 ef hc2
            generalize hln : s'.k.length = ln at *
            generalize hrn : s'.r.length = rn at *
            generalize hxn : x.length = xn at *
            go_wp2_with fail
            refine FD.mono ?_
            rintro e' w' ⟨rfl, hv⟩
            obtain rfl := hv.symm
            clear hv
            go_wp2_with fail
            refine FD.mono ?_
            rintro e' w' ⟨rfl, hv⟩
            obtain rfl := hv.symm
            clear hv FD
            have k5' : (wr.alloc (.cells #[.slice B xn d] 39)).cell? ⟨b, 4, none⟩ = some (.slice A4 rn c4) := k5
            have r4' : ∀ ty, (Builtin.append_ #[31, 31] ty #[.slice A4 rn c4, .slice (some ⟨wr.heap.size, 0, none⟩) 1 1]).run Try.prog (wr.alloc (.cells #[.slice B xn d] 39)).drew = .ok (.slice A5 (rn + 1) c5) V4 := r4
            clear r4 k5
            go_upto_region 10 with (fail)
            go_cut [74] (fun s74 wx => s74 = .slice A5 (rn + 1) c5 ∧ V5 = wx)
            case first =>
              go_region_law ((with_reducible refine step_append_run _ ?_ (.tmp 64) (.tmp 73) _ _ ?_ _ _ ?_ ?_ _ _ (r4' _) ?_); rfl; rfl; (focus (first | (simp [Act.eval]; done) | (simp [Act.eval, Act.put]; done))); (focus (first | (simp [Act.eval]; done) | (simp [Act.eval, Act.put]; done))))
              all_goals
                go_wp2_with fail
                go_meet
                case rel => exact ⟨rfl, rfl⟩
            case rest =>
              obtain ⟨rfl, rfl⟩ := hcut
              obtain ⟨raw5, on5⟩ := R1.out
              obtain ⟨A6, c6, q3, hd1, hd2, hAD⟩ := KP.out
              have hd3 : c6 ≤ 9223372036854775807 := by unfold maxLen at hd2; omega
              clear hd2
              rcases hAD with ⟨_, hA0, _⟩ | ⟨g6, off6, rfl, hg6, _⟩
              · omega
              have FINQ := Lib.hid (show ∀ V7, RoRaw V7 (more (more F w V5) (V5.drewN 1) V7) b s'.m s'.W s'.e (s'.k.take ix ++ s'.k.drop (ix + 1)) (s'.r ++ [x]) → Only (more F w V5) (V5.drewN 1) V7 → V7.cell? ⟨b, 0, none⟩ = some (.int .i64 (s'.m : Int)) ∧ V7.cell? ⟨b, 2, none⟩ = some (.int .i64 (s'.e : Int)) ∧ V7.frozen? ⟨b, 2, none⟩ = false ∧ ∀ q, RAL w F b s1 T ((V7.setCell ⟨b, 2, none⟩ (.int .i64 (((s'.e + 1) % s'.m : Nat) : Int))).drewN q) (k - 1) (n + 1) from fun V7 raw on => by
                obtain ⟨raw7, on7⟩ := ro_trans HLT.out on5 raw (only_from_drewN on)
                obtain ⟨p0, p2, pz, raw8, on8⟩ := ro_setX raw7 ((s'.e + 1) % s'.m)
                refine ⟨p0, p2, pz, fun q => ?_⟩
                obtain ⟨hk, hT, ha, hn⟩ := HS.out
                have st := ST.out
                refine ⟨s'.step x, by omega, ?_, RoTurn.drewN (F := F) (b := b) (s := s'.step x) (w := w) ⟨⟨?_, OKS.out⟩, on7.trans (only_set V7 ⟨b, 2, none⟩ _) (fun k _ e => by rw [e]; exact HB.out)⟩ q, by rw [st.1, ha], ?_⟩
                · rw [← hT, ADVS.out]
                  congr 1
                  omega
                · have e1 : (V7.setCell ⟨b, 2, none⟩ (.int .i64 (((s'.e + 1) % s'.m : Nat) : Int))).heap.size = V7.heap.size := by simp [World.setCell]
                  have e2 : more F w (V7.setCell ⟨b, 2, none⟩ (.int .i64 (((s'.e + 1) % s'.m : Nat) : Int))) = more F w V7 := by
                    unfold more
                    rw [e1]
                  rw [e2]
                  have e3 : (s'.step x).k = s'.k.take ix ++ s'.k.drop (ix + 1) := DL'.out
                  rw [e3]
                  exact raw8
                · unfold Od.step
                  simp only [List.length_append, List.length_singleton]
                  omega)
              have C6 : ∃ C : Option Addr, C = (if c6 = ix + 1 then some ⟨g6, off6, none⟩ else some ⟨g6, off6 + (ix + 1) * 2, none⟩) := ⟨_, rfl⟩
              obtain ⟨C6, hC6⟩ := C6
              obtain ⟨A7, c7, V6, r6, j6, A8, c8, V7, r7, j7, z7, raw7, on7⟩ := ro_cut2 (raw5.drewN 1) (by omega) (show (V5.drewN 1).cell? ⟨b, 3, none⟩ = some (.slice (some ⟨g6, off6, none⟩) s'.k.length c6) from by rw [hln]; exact q3) (i := ix) (by omega) C6 (c6 - (ix + 1)) (by rw [hC6]; split; exact .inl ⟨by assumption, rfl⟩; exact .inr rfl)
              obtain ⟨V8, hV8⟩ : ∃ V8, V7.setCell ⟨b, 3, none⟩ (.slice A8 (s'.k.length - 1) c8) = V8 := ⟨_, rfl⟩
              rw [hV8] at raw7 on7
              obtain ⟨x0, x2, xz, E3⟩ := FINQ.out V8 raw7 on7
              have E3' := Lib.hid E3
              simp only [hln] at r6 j6 r7 j7 hV8
              have r6' : ∀ ty, (Builtin.append_ #[93, 93] ty #[.slice none 0 0, .slice (some ⟨g6, off6, none⟩) ix c6]).run Try.prog V5.drew = .ok (.slice A7 ix c7) V6 := r6
              obtain ⟨y, hy⟩ : ∃ y, ix + 1 = y := ⟨_, rfl⟩
              rw [hy] at r7 hC6
              have py : (ix : Int) + 1 = (y : Int) := by omega
              have p6 : (ix : Int) ≤ (c6 : Int) := by omega
              have p7 : (0 : Int) ≤ (y : Int) := by omega
              have p8 : (y : Int) ≤ (ln : Int) := by omega
              have p9 : (y : Int) ≤ (c6 : Int) := by omega
              have hyb : y ≤ 200000 := by rw [← hy]; exact Nat.le_trans hi (Nat.le_trans hkl (by decide))
              have pw : wrap64 (y : Int) = (y : Int) := wrap_small hyb
              have pw2 : IntKind.i64.wrap (y : Int) = (y : Int) := wrap_small2 hyb
              clear hyb
              have hk1 : 1 ≤ k := by have := ST.out; have := HS.out; omega
              have HK := Lib.hid hk1
              have HNB := Lib.hid hnb
              have HL1 := Lib.hid (show c6 = y → ln = y from fun h => Nat.le_antisymm (by rw [← h]; exact hd1) (by rw [← hy]; exact hi))
              have N1 := NX
              clear raw7 on7 E3 FINQ raw5 on5 R1 KP DL' ADVS DN ST OKS HS HLT HB HALL hln hrn hxn hy hk1 hnb he hm9 hrl hkl hi hc1 hgs hcm NX r6 hil hixc c2 k3 e4 kb k5' r4' k6 z6 hV5
              have e5 : V5.cell? ⟨b, 3, none⟩ = some (.slice (some ⟨g6, off6, none⟩) ln c6) := q3
              go_upto_region 11 with (fail)
              go_cut [92] (fun s92 wx => s92 = .slice A8 (ln - 1) c8 ∧ V8 = wx)
              case first =>
                clear HK HNB N1 E3' x0 x2 xz
                by_cases hc : c6 = y
                · rw [if_pos hc] at hC6
                  have hly := HL1.out hc
                  subst hC6
                  clear HL1
                  subst hc
                  subst hly
                  simp only [Nat.sub_self] at r7
                  go_region_law (first
                    | ((with_reducible refine step_append_run _ ?_ (.const (.slice none 0 0)) (.tmp 83) _ _ ?_ _ _ ?_ ?_ _ _ (r6' _) ?_); rfl; rfl; (focus (first | (simp [Act.eval]; done) | (simp [Act.eval, Act.put]; done))); (focus (first | (simp [Act.eval]; done) | (simp [Act.eval, Act.put]; done))))
                    | ((with_reducible refine step_append_run _ ?_ (.tmp 84) (.tmp 91) _ _ ?_ _ _ ?_ ?_ _ _ (r7 _) ?_); rfl; rfl; (focus (first | (simp [Act.eval]; done) | (simp [Act.eval, Act.put]; done))); (focus (first | (simp [Act.eval]; done) | (simp [Act.eval, Act.put]; done)))))
                  all_goals
                    go_wp2_with fail
                    go_meet
                    case rel => exact ⟨rfl, rfl⟩
                · rw [if_neg hc] at hC6
                  subst hC6
                  clear HL1
                  have hcy : ¬ c6 - y = 0 := by omega
                  go_region_law (first
                    | ((with_reducible refine step_append_run _ ?_ (.const (.slice none 0 0)) (.tmp 83) _ _ ?_ _ _ ?_ ?_ _ _ (r6' _) ?_); rfl; rfl; (focus (first | (simp [Act.eval]; done) | (simp [Act.eval, Act.put]; done))); (focus (first | (simp [Act.eval]; done) | (simp [Act.eval, Act.put]; done))))
                    | ((with_reducible refine step_append_run _ ?_ (.tmp 84) (.tmp 91) _ _ ?_ _ _ ?_ ?_ _ _ (r7 _) ?_); rfl; rfl; (focus (first | (simp [Act.eval]; done) | (simp [Act.eval, Act.put]; done))); (focus (first | (simp [Act.eval]; done) | (simp [Act.eval, Act.put]; done)))))
                  all_goals
                    go_wp2_with fail
                    go_meet
                    case rel => exact ⟨rfl, rfl⟩
              case rest =>
                obtain ⟨rfl, rfl⟩ := hcut
                clear r6' r7 hC6 py p6 p7 p8 p9 pw pw2 j6 j7 z7 hV8 e5 q3 HL1
                have E4 : Aside (∀ q, RAL w F b s1 T ((V8.setCell ⟨b, 2, none⟩ (.int .i64 (((s'.e + 1) % s'.m : Nat) : Int))).drewN q) (k - 1) (n + 1)) := E3'.out
                clear E3'
                generalize (s'.e + 1) % s'.m = yy at *
                generalize s'.e = zz at *
                generalize s'.m = MM at *
                have hnb := HNB.out
                go_wp2_with fail
                refine wp_region_still_tail 12 (by kernel_rfl) (by kernel_rfl) ?_
                simp only [List.take_succ_cons, List.take_zero, List.drop_succ_cons, List.drop_zero]
                repeat still_step
                still_call (N1 _)
                repeat still_step
                refine wpStill_nil ?_
                go_wp2
                go_roundg k
                case measure => omega
                case rel => exact ⟨k - 1, n + 1, val_int (by omega), by have := HK.out; omega, E4.out 1⟩
    · obtain ⟨e1, e2⟩ := Od.put_had (x := x) hf hh
      rw [e1, e2]
      have FI := Lib.hid (fun q => (RoTurn.refl h).drewN q)
      obtain ⟨y, hy⟩ := Od.had_some hh
      rw [(fnd_some hy).1] at FD
      have FD' := fun q => FD (w.drewN q) (h.1.drewN q)
      obtain ⟨⟨A, c, cs, B, d, vs, h1, _⟩, _⟩ := h
      obtain ⟨c0, c1, c2, c3, c4⟩ := rocell h1
      clear h1 hy hh hf ok hn c4 c3 e1 e2 hr hx hall q0 q1 hm8 hm9 he9 hdd FD
      generalize fi s.k (n % (s.m : Int)) = ix at *
      generalize (n - (s.e : Int)) % (s.m : Int) = dd at *
      generalize n % (s.m : Int) = z at *
      generalize s.m = M at *
      generalize s.W = W at *
      generalize s.e = e at *
      go_enter Try.func34, Try.ntmps34
      go_wp2_with fail
      refine (MO _).mono ?_
      rintro e w' ⟨rfl, rfl⟩
      go_wp2_with fail
      go_quiet (first | (go_at_call 56; exact Calls.quiet_of_same (DI _)))
      have FE := FD' nq
      clear FD'
      go_wp2_with fail
      refine FE.mono ?_
      rintro e w' ⟨rfl, rfl⟩
      go_wp2
      go_ret
      exact ⟨rfl, FI.out _⟩
  · obtain ⟨e1, e2⟩ := Od.put_far (x := x) hf
    rw [e1, e2]
    have gf : (s.W : Int) ≤ (n - (s.e : Int)) % (s.m : Int) := by unfold Od.far at hf; simp at hf; omega
    have FI := Lib.hid (fun q => (RoTurn.refl h).drewN q)
    obtain ⟨⟨A, c, cs, B, d, vs, h1, _⟩, _⟩ := h
    obtain ⟨c0, c1, c2, c3, c4⟩ := rocell h1
    clear h1 hf ok hn c4 c3 e1 e2 hr hx hall q0 q1 hm8 hm9 he9 hdd
    generalize (n - (s.e : Int)) % (s.m : Int) = dd at *
    generalize n % (s.m : Int) = z at *
    generalize s.m = M at *
    generalize s.W = W at *
    generalize s.e = e at *
    go_enter Try.func34, Try.ntmps34
    go_wp2_with fail
    refine (MO _).mono ?_
    rintro e w' ⟨rfl, rfl⟩
    go_wp2_with fail
    go_quiet (first | (go_at_call 56; exact Calls.quiet_of_same (DI _)))
    go_wp2
    go_ret
    exact ⟨rfl, FI.out _⟩
end
end Go.Proofs.Ytdidmpimlodffaa

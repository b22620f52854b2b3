/- Put of an order of the program. Condition: the number is one of 64 bits, the message reads as its octets, fewer than a million messages. -/
import Derived.Test.YtbalhpffdgbdgaaOrdAdv
import Derived.Deep.RegionLaw
namespace Go.Proofs.Ytbalhpffdgbdgaa
open Go.RowKit
set_option linter.unusedVariables false

theorem odDist_calls (a k M : Int) (w : World) (h1 : I64 a) (h2 : I64 k) (h3 : 1 ≤ M) (h4 : M ≤ 32768) :
    Calls Try.prog 23 #[.int .i64 a, .int .i64 k, .int .i64 M] w fun e w' => e = .returned (.int .i64 ((k - a) % M)) ∧ w' = w := by
  refine (serDist_calls a k M w h1 h2 (by unfold I64; omega)).mono ?_
  rintro e w' ⟨rfl, rfl⟩
  unfold sdst
  rw [slim_mid (by omega) (by omega)]
  exact ⟨rfl, rfl⟩
set_option maxHeartbeats 400000 in
theorem odIn_calls (x a W M : Int) (w : World) (h1 : I64 a) (h2 : I64 x) (h3 : 1 ≤ M) (h4 : M ≤ 32768) :
    Calls Try.prog 22 #[.int .i64 x, .int .i64 a, .int .i64 W, .int .i64 M] w fun e w' => e = .returned (.bool (decide ((x - a) % M < W))) ∧ w' = w := by
  have D := fun v => odDist_calls a x M v h1 h2 h3 h4
  generalize (x - a) % M = d at *
  go_enter Try.func22, Try.ntmps22
  go_wp2_with fail
  refine (D _).mono ?_
  rintro e w' ⟨rfl, rfl⟩
  go_wp2
  go_ret
  exact ⟨by simp, rfl⟩
section
variable {w : World} {F : Nat → Prop} {b : Nat} {s : Od}
/-- a message comes into the map -/
theorem od_add (h : OdP w F b s) (n : Int) (x : List UInt8) (hx : x.length ≤ 1048576) (hn : s.had n = false) (hl : s.all ≤ 1000000) :
    ∃ B, w.cell? ⟨b, 3, none⟩ = some (.map (some B)) ∧ ∀ V1 A1 c1, Below w.heap.size w V1 → Own V1 w.heap.size A1 c1 x → V1.cell? ⟨b, 3, none⟩ = some (.map (some B)) ∧
      ∃ V2, (Instr.mapUpdate 43 (.map (some B)) (.int .i64 (n % (s.m : Int))) (.slice A1 x.length c1)).run Try.prog V1 = .ok () V2 ∧ OdTurn F b (s.add n x) w V2 := by
  have okA := h.2.add hn hx
  have hnone := Od.had_none hn
  have hm8 := h.2.m8
  have hm9 := h.2.m9
  have q0 : 0 ≤ n % (s.m : Int) := Int.emod_nonneg _ (by omega)
  have q1 : n % (s.m : Int) < (s.m : Int) := Int.emod_lt_of_pos _ (by omega)
  obtain ⟨⟨B, V, A, c, vs, h1, ⟨hM, hK⟩, ⟨h4, h5⟩, h6, h7, h8, h9⟩, ok⟩ := h
  refine ⟨B, (odcell h1).2.2.2.1, fun V1 A1 c1 b1 own => ?_⟩
  have m1 := Mid.of_own own
  have k1 := fun k hk => (own.blk_ge k hk).1
  have o1 : Only (fun _ => False) w V1 := Only.of_below _ b1
  have hb1 := (b1.block b (lt_of_block h1)).trans h1
  have hM1 := hM.only o1 (fun h => h)
  have hkl : s.k.length ≤ 1000000 := by unfold Od.all at hl; omega
  obtain ⟨V2, UR, hM2, on2⟩ := hM1.store q0 (by omega) (hK.lk_none hnone) (by rw [hK.len]; unfold maxLen; omega) (.slice A1 x.length c1)
  have hs1 := b1.size
  have hs2 := on2.size
  have hbB : ¬ b = B := fun e => hM1.notCells (e ▸ hb1)
  have hb2 := (on2.block b (lt_of_block hb1) hbB).trans hb1
  have hv1 := h4.only o1 (fun _ _ h => h)
  have t2 : Only F w V2 := (o1.mono (fun _ _ h => h.elim)).trans on2 (fun k _ e => by rw [e]; exact h7)
  have p1 : Pc V1 (more F w V2) (.slice A1 x.length c1) x := ⟨A1, c1, rfl, m1, fun k hk => .inr ⟨k1 k hk, Nat.lt_of_lt_of_le (m1.blk_lt k hk) hs2⟩⟩
  have p2 : Pc V2 (more F w V2) (.slice A1 x.length c1) x := p1.only on2 (fun k _ hk => cells_off_map hM1 k hk) (fun _ h => h)
  have k2 : Kp V2 (more F w V2) V s.k := Kp.only on2 (fun k _ hk => cells_off_map hM1 k hk) (fun _ h => .inl h) (Kp.only o1 (fun _ _ _ h => h) (fun _ h => h) hK)
  refine ⟨(odcell hb1).2.2.2.1, V2, UR, ⟨⟨B, _, A, c, vs, hb2, ⟨hM2, k2.app p2⟩, ⟨hv1.only on2 (fun k hk => cells_off_map hM1 k (hv1.type k hk)), Pcs.only on2 (fun k _ hk => cells_off_map hM1 k hk) (fun _ h => .inl h) (Pcs.only o1 (fun _ _ _ h => h) (fun _ h => h) h5)⟩, .inl h6, .inl h7, fun k hk => .inl (h8 k hk), more_lt h9 (Nat.le_trans hs1 hs2)⟩, okA⟩, t2⟩
set_option maxRecDepth 20000 in
set_option maxHeartbeats 1000000 in
theorem odPut_calls (h : OdP w F b s) (hall : s.all ≤ 999999) (n : Int) (hn : I64 n) (X : Option Addr) (c9 : Nat) (x : List UInt8) (hr : Rd w X x) (hx : x.length ≤ 1048576) :
    Calls Try.prog 10 #[.pointer (some ⟨b, 0, none⟩), .int .i64 n, .slice X x.length c9] w fun r w' => r = .returned (.int .i64 (s.putN n x)) ∧ OdTurn F b (s.put n x) w w' := by
  have ok := h.2
  have hm8 := ok.m8
  have hm9 := ok.m9
  have he9 := ok.e9
  have IN := fun v => odIn_calls n (s.e : Int) (s.W : Int) (s.m : Int) v (by unfold I64; omega) hn (by omega) (by omega)
  have DI := fun v => odDist_calls 0 n (s.m : Int) v (by unfold I64; omega) hn (by omega) (by omega)
  rw [Int.sub_zero] at DI
  cases hf : s.far n
  · have hin : decide ((n - (s.e : Int)) % (s.m : Int) < (s.W : Int)) = true := by unfold Od.far at hf; simp at hf ⊢; omega
    rw [hin] at IN
    cases hh : s.had n
    · obtain ⟨e1, e2⟩ := Od.put_new (x := x) hf hh
      rw [e1, e2]
      have HH := Lib.hid (fun q : Nat => od_add (h.drewN q) n x hx hh (by omega))
      have CL := fun q : Nat => cloneOwn_calls X c9 x (w.drewN q) (hr.drewN q) hx
      have HLT := Lib.hid h.lt
      have hall1 : (s.add n x).all ≤ 1000000 := by unfold Od.add Od.all; unfold Od.all at hall; simp only [List.length_append, List.length_singleton]; omega
      have hrr : (s.add n x).r.length = s.r.length := rfl
      obtain ⟨T, hT⟩ : ∃ T, T = Od.adv ((s.add n x).k.length + 1) (s.add n x) := ⟨_, rfl⟩
      have ADV := Lib.hid (fun V2 (tn : OdTurn F b (s.add n x) w V2) => odAdv_calls tn.1 hall1)
      rw [← hT, hrr] at ADV
      rw [← hT]
      have q0 : 0 ≤ n % (s.m : Int) := Int.emod_nonneg _ (by omega)
      have q1 : n % (s.m : Int) < (s.m : Int) := Int.emod_lt_of_pos _ (by omega)
      have hnone := Od.had_none hh
      obtain ⟨⟨B, V, A, c, vs, h1, ⟨hM, hK⟩, _⟩, _⟩ := h
      obtain ⟨c0, c1, c2, c3, c4⟩ := odcell h1
      have LK := fun q : Nat => (hM.block (w' := w.drewN q) rfl).look (k := n % (s.m : Int)) q0 (by omega)
      rw [hK.lk_none hnone] at LK
      simp only [Option.getD_none, Option.isSome_none] at LK
      clear h1 hM hK hnone hh hf hin ok hn c4 e1 e2 hr hx hall q0 q1 hm8 hm9 he9 hT hrr hall1
      generalize s.r.length = rl at *
      generalize s.add n x = s1 at *
      generalize n % (s.m : Int) = z at *
      generalize s.m = M at *
      generalize s.W = W at *
      generalize s.e = e at *
      go_enter Try.func10, Try.ntmps10
      go_wp2_with fail
      go_quiet (first | (go_at_call 22; exact Calls.quiet_of_same (IN _)))
      go_wp2_with fail
      refine (DI _).mono ?_
      rintro e w' ⟨rfl, rfl⟩
      obtain ⟨B', k3, AM⟩ := HH.out (nq + 1)
      obtain rfl : B' = B := by
        have k5 : w.cell? ⟨b, 3, none⟩ = some (.map (some B')) := k3
        rw [c3] at k5
        injection k5 with k5
        injection k5 with k5
        injection k5 with k5
        exact k5.symm
      have AM' := Lib.hid AM
      have L1 := LK nq
      have CC : Calls Try.prog 24 #[.slice X x.length c9] (w.drewN nq).drew (GivesOwn x (w.drewN nq).drew) := CL (nq + 1)
      have d3 : (w.drewN nq).drew.cell? ⟨b, 3, none⟩ = some (.map (some B')) := k3
      clear HH CL AM LK k3
      go_wp2_with (at_lookup; refine wpList_lookup_run _ rfl _ _ _ rfl _ _ rfl rfl _ L1 ?_)
      go_region_law (go_simp; go_at_call 24; refine CC.mono ?_; rintro e9 V1 ⟨A1, c1', rfl, own, bel⟩; obtain ⟨j3, V2, UR, TT⟩ := AM'.out V1 A1 c1' bel own; have FT := Lib.hid TT.from_drewN; clear TT)
      all_goals
        have AV := ADV.out V2 FT.out
        clear UR AM' own bel ADV c0 c1 c2 c3 d3 j3 IN DI L1 CC
        go_wp2_with fail
        refine AV.mono ?_
        rintro e' w' ⟨rfl, tt⟩
        have FI := Lib.hid (OdTurn.trans HLT.out FT.out tt)
        clear AV tt FT HLT
        go_wp2
        go_ret
        exact ⟨rfl, FI.out⟩
    · obtain ⟨e1, e2⟩ := Od.put_had (x := x) hf hh
      rw [e1, e2]
      have FI := Lib.hid (fun q => (OdTurn.refl h).drewN q)
      obtain ⟨y, hy⟩ := Od.had_some hh
      obtain ⟨⟨B, V, A, c, vs, h1, ⟨hM, hK⟩, _⟩, _⟩ := h
      obtain ⟨c0, c1, c2, c3, c4⟩ := odcell h1
      obtain ⟨v, hv, hp⟩ := hK.lk_some hy
      obtain ⟨C, d, rfl, _⟩ := hp
      have q0 : 0 ≤ n % (s.m : Int) := Int.emod_nonneg _ (by omega)
      have q1 : n % (s.m : Int) < (s.m : Int) := Int.emod_lt_of_pos _ (by omega)
      have LK := fun q : Nat => (hM.block (w' := w.drewN q) rfl).look (k := n % (s.m : Int)) q0 (by omega)
      rw [hv] at LK
      simp only [Option.getD_some, Option.isSome_some] at LK
      clear h1 hM hK hv hy hh hf hin ok hn c4 e1 e2 hr hx hall q0 q1 hm8 hm9 he9
      generalize n % (s.m : Int) = z at *
      generalize s.m = M at *
      generalize s.W = W at *
      generalize s.e = e at *
      go_enter Try.func10, Try.ntmps10
      go_wp2_with fail
      go_quiet (first | (go_at_call 22; exact Calls.quiet_of_same (IN _)))
      go_wp2_with fail
      refine (DI _).mono ?_
      rintro e w' ⟨rfl, rfl⟩
      go_wp2_with (at_lookup; refine wpList_lookup_run _ rfl _ _ _ rfl _ _ rfl rfl _ (LK _) ?_)
      go_ret
      exact ⟨rfl, FI.out _⟩
  · obtain ⟨e1, e2⟩ := Od.put_far (x := x) hf
    rw [e1, e2]
    have hin : decide ((n - (s.e : Int)) % (s.m : Int) < (s.W : Int)) = false := by unfold Od.far at hf; simp at hf ⊢; omega
    rw [hin] at IN
    have FI := Lib.hid (fun q => (OdTurn.refl h).drewN q)
    obtain ⟨⟨B, V, A, c, vs, h1, _⟩, _⟩ := h
    obtain ⟨c0, c1, c2, c3, c4⟩ := odcell h1
    clear h1 hf hin ok hn c4 c3 e1 e2 hr hx hall hm8 hm9 he9 DI
    generalize s.m = M at *
    generalize s.W = W at *
    generalize s.e = e at *
    go_enter Try.func10, Try.ntmps10
    go_wp2_with fail
    go_quiet (first | (go_at_call 22; exact Calls.quiet_of_same (IN _)))
    go_wp2
    go_ret
    exact ⟨rfl, FI.out _⟩
end
end Go.Proofs.Ytbalhpffdgbdgaa

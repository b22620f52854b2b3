/- advance of an order of the program: as long as the expected message is kept, it becomes ready. Condition: fewer than a million messages. -/
import Derived.Test.YtbalhpffdgbdgaaOrdMem
import Derived.Deep.LoopGhost
namespace Go.Proofs.Ytbalhpffdgbdgaa
open Go.RowKit
set_option linter.unusedVariables false

section
variable {w w' : World} {F G : Nat → Prop} {b m W e : Nat} {l : List (Int × List UInt8)} {r : List (List UInt8)} {s : Od}
/-- the expected message becomes ready: every step of it -/
theorem od_round (h : OdRaw w F b m W e l r) (hd : Ds l) (he : e < 32768) (hr : r.length ≤ 1000000) {x : List UInt8} (hx : lk l (e : Int) = some x) :
    ∃ B A c C d, w.cell? ⟨b, 3, none⟩ = some (.map (some B)) ∧ w.cell? ⟨b, 2, none⟩ = some (.int .i64 (e : Int)) ∧ (∀ q, (Instr.lookup 43 (.map (some B)) (.int .i64 (e : Int)) true).run Try.prog (w.drewN q) = .ok (.tuple #[.slice C x.length d, .bool true]) (w.drewN q)) ∧
      ∀ q, ∃ w1, (∀ ty, (Builtin.delete_ #[43, 3] ty #[.map (some B), .int .i64 (e : Int)]).run Try.prog (w.drewN q) = .ok (.tuple #[]) w1) ∧ w1.cell? ⟨b, 4, none⟩ = some (.slice A r.length c) ∧
        ∃ A3 c3 V3, (∀ ty, (Builtin.append_ #[44, 44] ty #[.slice A r.length c, .slice (some ⟨w1.heap.size, 0, none⟩) 1 1]).run Try.prog (w1.alloc (.cells #[.slice C x.length d] 28)) = .ok (.slice A3 (r.length + 1) c3) V3) ∧ V3.cell? ⟨b, 4, none⟩ = some (.slice A r.length c) ∧ V3.frozen? ⟨b, 4, none⟩ = false ∧
          ∃ V4, V3.setCell ⟨b, 4, none⟩ (.slice A3 (r.length + 1) c3) = V4 ∧ V4.cell? ⟨b, 0, none⟩ = some (.int .i64 (m : Int)) ∧ V4.cell? ⟨b, 2, none⟩ = some (.int .i64 (e : Int)) ∧ V4.frozen? ⟨b, 2, none⟩ = false ∧
            ∀ e' : Nat, OdRaw (V4.setCell ⟨b, 2, none⟩ (.int .i64 (e' : Int))) (more F w V4) b m W e' (dl l (e : Int)) (r ++ [x]) ∧ Only F w (V4.setCell ⟨b, 2, none⟩ (.int .i64 (e' : Int))) := by
  obtain ⟨B, V, A, c, vs, h1, ⟨hM, hK⟩, ⟨h4, h5⟩, h6, h7, h8, h9⟩ := h
  obtain ⟨v, hv, hp⟩ := hK.lk_some hx
  obtain ⟨C, d, rfl, hmC, hFC⟩ := id hp
  obtain ⟨c0, c1, c2, c3, c4⟩ := odcell h1
  have hvl := h5.len
  refine ⟨B, A, c, C, d, c3, c2, fun q => ?_, fun q => ?_⟩
  · have := (hM.block (w' := w.drewN q) rfl).look (k := (e : Int)) (by omega) (by omega)
    rw [hv] at this
    exact this
  obtain ⟨w1, DR, hM1, on1'⟩ := (hM.block (w' := w.drewN q) rfl).drop (hK.ds hd) (k := (e : Int)) (by omega) (by omega)
  have on1 : Only (fun k => k = B) w w1 := only_from_drewN on1'
  have hbB : ¬ b = B := fun e => hM.notCells (e ▸ h1)
  have hb1 := (on1.block b (lt_of_block h1) hbB).trans h1
  have hv1 := h4.only on1 (fun k hk => cells_off_map hM k (h4.type k hk))
  obtain ⟨A3, c3', V3, r3, m3, on3, kin3⟩ := hv1.app1 etRow (.slice C x.length d) rfl (by omega)
  rw [hvl] at r3
  have hb3 := (on3.block b (lt_of_block hb1) (fun e => by
    obtain ⟨cur, t1⟩ := hv1.type b e
    exact types_apart (by decide) t1 hb1)).trans hb1
  have hs1 := on1.size
  have hs3 := on3.size
  have hlt3 : ∀ k, more F w V3 k → k < V3.heap.size := more_lt h9 (Nat.le_trans hs1 hs3)
  have p1 : Pcs w1 F vs r := Pcs.only on1 (fun k _ hk => cells_off_map hM k hk) (fun _ h => h) h5
  have p3 : Pcs V3 (more F w V3) vs r := Pcs.only on3 (pcs_off_rows hv1) (fun _ h => .inl h) p1
  have q1 : Pc w1 F (.slice C x.length d) x := hp.only on1 (fun k _ hk => cells_off_map hM k hk) (fun _ h => h)
  have q3 : Pc V3 (more F w V3) (.slice C x.length d) x := q1.only on3 (pcs_off_rows hv1) (fun _ h => .inl h)
  have k1 : Kp w1 F (dl V (e : Int)) (dl l (e : Int)) := Kp.only on1 (fun k _ hk => cells_off_map hM k hk) (fun _ h => h) hK.dl
  have k3 : Kp V3 (more F w V3) (dl V (e : Int)) (dl l (e : Int)) := Kp.only on3 (pcs_off_rows hv1) (fun _ h => .inl h) k1
  have M3 : MpR V3 B (dl V (e : Int)) := hM1.only on3 (fun e => by
    obtain ⟨cur, t1⟩ := hv1.type B e
    exact hM1.notCells t1)
  have g8 : ∀ k, blk A3 = some k → more F w V3 k := fun k hk => (kin3 k hk).elim (fun h => .inl (h8 k h)) (fun h => .inr ⟨Nat.le_trans hs1 h, m3.blk_lt k hk⟩)
  obtain ⟨f4, raw4, on4⟩ := od_set (F := more F w V3) (m := m) (W := W) (e := e) (r := r ++ [x]) hb3 4 (.slice A3 (r.length + 1) c3') (by simp [odc]) M3 k3 m3 (p3.app q3) (.inl h6) (.inl h7) g8 hlt3
  have hs4 : (V3.setCell ⟨b, 4, none⟩ (.slice A3 (r.length + 1) c3')).heap.size = V3.heap.size := by simp [World.setCell]
  refine ⟨w1, DR, (odcell hb1).2.2.2.2, A3, c3', V3, r3, (odcell hb3).2.2.2.2, f4, _, rfl, ?_⟩
  have t3 : Only F w V3 := (on1.mono (fun k _ e => by rw [e]; exact h7)).trans on3 (fun k _ hk => h8 k hk)
  have t4 : Only F w (V3.setCell ⟨b, 4, none⟩ (.slice A3 (r.length + 1) c3')) := t3.trans (only_set V3 ⟨b, 4, none⟩ _) (fun k _ e => by rw [e]; exact h6)
  obtain ⟨B', V', A', c', vs', i1, ⟨i2, i3⟩, ⟨i4, i5⟩, i6, i7, i8, i9⟩ := raw4
  obtain ⟨j0, j1, j2, j3, j4⟩ := odcell i1
  refine ⟨j0, j2, frozen_of_row _ b 2 _ _ i1, fun e' => ?_⟩
  obtain ⟨f5, raw5, on5⟩ := od_set (m := m) (W := W) (e := e') i1 2 (.int .i64 (e' : Int)) (by simp [odc]) i2 i3 i4 i5 i6 i7 i8 i9
  refine ⟨?_, t4.trans (only_set _ ⟨b, 2, none⟩ _) (fun k _ e => by rw [e]; exact h6)⟩
  unfold more
  rw [hs4]
  exact raw5
theorem odNxt_calls (k M : Nat) (w : World) (h2 : k < M) (h3 : 1 ≤ M) (h4 : M ≤ 32768) :
    Calls Try.prog 33 #[.int .i64 (k : Int), .int .i64 (M : Int)] w fun e w' => e = .returned (.int .i64 (((k + 1) % M : Nat) : Int)) ∧ w' = w := by
  refine (serNext_calls k M w (by unfold I64; omega) (by unfold I64; omega)).mono ?_
  rintro e w' ⟨rfl, rfl⟩
  unfold snxt
  rw [slim_mid (by omega) (by omega)]
  refine ⟨ret_int ?_, rfl⟩
  rw [Int.emod_eq_of_lt (a := (k : Int)) (by omega) (by omega), Int.natCast_emod]
  rfl
/-- how it stands in the loop -/
def AL (w : World) (F : Nat → Prop) (b : Nat) (s T : Od) (wr : World) (k n : Nat) : Prop :=
  ∃ s' : Od, s'.k.length = k ∧ Od.adv (k + 1) s' = T ∧ OdTurn F b s' w wr ∧ s'.all = s.all ∧ s'.r.length = s.r.length + n
set_option maxRecDepth 20000 in
set_option maxHeartbeats 1000000 in
theorem odAdv_calls (h : OdP w F b s) (hall : s.all ≤ 1000000) :
    Calls Try.prog 25 #[.pointer (some ⟨b, 0, none⟩)] w fun r w' => r = .returned (.int .i64 (((Od.adv (s.k.length + 1) s).r.length : Int) - (s.r.length : Int))) ∧ OdTurn F b (Od.adv (s.k.length + 1) s) w w' := by
  have HLT := Lib.hid h.lt
  have H0 : Aside (AL w F b s (Od.adv (s.k.length + 1) s) w s.k.length 0) := ⟨s, rfl, rfl, OdTurn.refl h, rfl, rfl⟩
  have HALL := Lib.hid hall
  clear h hall
  generalize Od.adv (s.k.length + 1) s = T at *
  go_enter Try.func25, Try.ntmps25
  go_wp2_with fail
  go_loopg [3] (s.k.length + 1) (fun kx s3 wr => ∃ (k n : Nat), s3 = .int .i64 (n : Int) ∧ k + 1 = kx ∧ Aside (AL w F b s T wr k n))
  case atStart => exact ⟨s.k.length, 0, rfl, rfl, H0.out⟩
  case round =>
    clear H0
    obtain ⟨k, n, rfl, rfl, HO⟩ := hrel
    obtain ⟨s', hk, hT, ht, ha, hn⟩ := HO.out
    clear HO
    have ok := ht.1.2
    have he := ok.e9
    have hm9 := ok.m9
    have hall := HALL.out
    have hrl : s'.r.length ≤ 1000000 := by unfold Od.all at ha hall; omega
    cases hx : lk s'.k (s'.e : Int) with
    | none =>
      have hTn : s' = T := by rw [← hT]; exact (Od.adv_none hx).symm
      obtain ⟨B, V, A, c, vs, h1, ⟨hM, hK⟩, _⟩ := ht.1.1
      obtain ⟨c0, c1, c2, c3, c4⟩ := odcell h1
      have LK := fun q : Nat => (hM.block (w' := wr.drewN q) rfl).look (k := (s'.e : Int)) (by omega) (by omega)
      rw [hK.lk_none hx] at LK
      simp only [Option.getD_none, Option.isSome_none] at LK
      have FI := Lib.hid (fun q => ht.drewN q)
      rw [hTn] at FI
      have HN := Lib.hid (show (T.r.length : Int) - (s.r.length : Int) = (n : Int) by rw [← hTn]; omega)
      clear h1 hM hK c0 c1 c4 hx hT ht ha hn ok he hall hrl hm9 hTn hk
      generalize s'.e = x at *
      go_wp2_with fail
      go_quiet (fail)
      go_wp2
      go_ret
      exact ⟨ret_int HN.out.symm, FI.out _⟩
    | some x =>
      have OKS := Lib.hid (ok.step hx)
      obtain ⟨B, A, c, C, d, c3, c2, LK, RD⟩ := od_round ht.1.1 ok.ds (by omega) hrl hx
      have RD' := Lib.hid RD
      have hnb : n ≤ 1000000 := by omega
      have HS := Lib.hid (show s'.k.length = k ∧ Od.adv (k + 1) s' = T ∧ OdTurn F b s' w wr ∧ s'.all = s.all ∧ s'.r.length = s.r.length + n ∧ s'.Ok ∧ lk s'.k (s'.e : Int) = some x from ⟨hk, hT, ht, ha, hn, ok, hx⟩)
      have NX := fun v => odNxt_calls s'.e s'.m v he (by omega) hm9
      clear hk hT ht ha hn ok hx hall
      clear RD
      go_wp2_with fail
      go_quiet (fail)
      obtain ⟨w1, DR, k4, A3, c3', V3, r3, j4, f4, V4, hV4, i0, i2, f2, FIN⟩ := RD'.out (nq + 1)
      have FIN' := Lib.hid FIN
      have DR' : (Builtin.delete_ #[43, 3] 0 #[.map (some B), .int .i64 (s'.e : Int)]).run Try.prog (wr.drewN nq).drew = .ok (.tuple #[]) w1 := DR 0
      have r3' := r3
      have e3 : (wr.drewN nq).cell? ⟨b, 3, none⟩ = some (.map (some B)) := c3
      have e2 : (wr.drewN nq).cell? ⟨b, 2, none⟩ = some (.int .i64 (s'.e : Int)) := c2
      clear RD' FIN DR LK c3 c2
      generalize wr.drewN nq = wq at *
      go_wp2_with fail
      refine wp_region_still_tail 8 (by kernel_rfl) (by kernel_rfl) ?_
      simp only [List.take_succ_cons, List.take_zero, List.drop_succ_cons, List.drop_zero]
      repeat still_step
      refine wpStill_nil ?_
      go_wp2_with (first
        | (at_delete; refine wpList_delete_run _ rfl _ _ _ _ rfl _ _ rfl rfl _ DR' ?_)
        | (at_builtin; refine Lib.wpList_append_run _ rfl _ _ _ _ rfl _ _ rfl rfl _ _ (r3 _) ?_))
      have E3 : Aside (∀ q, AL w F b s T ((V4.setCell ⟨b, 2, none⟩ (.int .i64 (((s'.e + 1) % s'.m : Nat) : Int))).drewN q) (k - 1) (n + 1)) := fun q => by
        obtain ⟨hk, hT, ht, ha, hn, ok, hx⟩ := HS.out
        obtain ⟨sa, sk⟩ := Od.step_all hx
        obtain ⟨raw, on⟩ := FIN'.out ((s'.e + 1) % s'.m)
        refine ⟨s'.step x, by omega, ?_, (OdTurn.trans HLT.out ht ⟨⟨?_, OKS.out⟩, on⟩).drewN q, by rw [sa, ha], ?_⟩
        · rw [← hT, Od.adv_some hx]
          congr 1
          omega
        · have e1 : (V4.setCell ⟨b, 2, none⟩ (.int .i64 (((s'.e + 1) % s'.m : Nat) : Int))).heap.size = V4.heap.size := by simp [World.setCell]
          have e2 : more (more F w wr) wr (V4.setCell ⟨b, 2, none⟩ (.int .i64 (((s'.e + 1) % s'.m : Nat) : Int))) = more (more F w wr) wr V4 := by
            funext q
            unfold more
            rw [e1]
          rw [e2]
          exact raw
        · unfold Od.step
          simp only [List.length_append, List.length_singleton]
          omega
      have hk1 : 1 ≤ k := by
        obtain ⟨hk, _, _, _, _, _, hx⟩ := HS.out
        have := Od.step_all hx
        omega
      clear HS FIN' r3 r3' OKS hV4
      generalize (s'.e + 1) % s'.m = y at *
      generalize s'.e = z at *
      generalize s'.m = M at *
      refine wp_region_still_tail 12 (by kernel_rfl) (by kernel_rfl) ?_
      simp only [List.take_succ_cons, List.take_zero, List.drop_succ_cons, List.drop_zero]
      repeat still_step
      still_call (NX _)
      repeat still_step
      refine wpStill_nil ?_
      go_wp2
      go_roundg k
      case measure => omega
      case rel => exact ⟨k - 1, n + 1, val_int (by omega), by omega, E3.out 1⟩
end
end Go.Proofs.Ytbalhpffdgbdgaa

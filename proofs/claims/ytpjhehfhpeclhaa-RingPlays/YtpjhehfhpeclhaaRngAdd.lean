/- Add of a ring of the program. Condition: what is added reads as its octets. -/
import Derived.Test.YtpjhehfhpeclhaaRngMem
namespace Go.Proofs.Ytpjhehfhpeclhaa
open Go.RowKit
set_option linter.unusedVariables false

section
variable {w : World} {F : Nat → Prop} {b : Nat} {s : Rng}
/-- a whole piece comes: two appends, each stored -/
theorem add_mem (h : PQ w F b s) (X : Option Addr) (e : Nat) (x : List UInt8) (hr : Rd w X x) (hx : x ≠ []) (hf : s.o.length + x.length ≤ s.R) :
    ∃ A c B d, w.cell? ⟨b, 1, none⟩ = some (.slice A s.o.length c) ∧ 
    ∃ A1 c1 w1, (∀ ty, (Builtin.append_ #[28, 28] ty #[.slice A s.o.length c, .slice X x.length e]).run Try.prog w = .ok (.slice A1 (s.o.length + x.length) c1) w1) ∧ w1.cell? ⟨b, 1, none⟩ = some (.slice A s.o.length c) ∧ w1.frozen? ⟨b, 1, none⟩ = false ∧
      ∃ w2, w2 = w1.setCell ⟨b, 1, none⟩ (.slice A1 (s.o.length + x.length) c1) ∧ w2.cell? ⟨b, 3, none⟩ = some (.slice B s.wh.length d) ∧
        ∃ B3 d3 w3, (∀ ty, (Builtin.append_ #[36, 36] ty #[.slice B s.wh.length d, .slice (some ⟨w2.heap.size, 0, none⟩) 1 1]).run Try.prog (w2.alloc (.cells #[.int .i64 (x.length : Int)] 3)) = .ok (.slice B3 (s.wh.length + 1) d3) w3) ∧
          w3.cell? ⟨b, 3, none⟩ = some (.slice B s.wh.length d) ∧ w3.frozen? ⟨b, 3, none⟩ = false ∧ Turn F b (s.add x) w (w3.setCell ⟨b, 3, none⟩ (.slice B3 (s.wh.length + 1) d3)) := by
  have okA := h.2.add x
  have hwl := Rng.wh_le h.2
  have hRl := h.2.2.1
  have hol := h.2.1
  obtain ⟨gq, wq⟩ := Rng.gw_app s.l s.beg h.2.2.2.2.2 x
  rw [(Rng.add_yes hf hx).2] at okA ⊢
  obtain ⟨⟨A, c, B, d, h1, h2, h3, h4, h5, h6, h7⟩, ok⟩ := h
  obtain ⟨a1, a2, a3⟩ := rows_apart h1 h2 h3
  obtain ⟨A1, c1, w1, r1, m1, on1, kin1⟩ := h2.app X e x hr (by omega)
  have hb1 := (on1.block b (lt_of_block h1) a1).trans h1
  have h31 := h3.only on1 (fun k hk hk' => a3 k hk' hk)
  -- the octets are stored; all lies in what F has become
  let F1 : Nat → Prop := more F w w1
  have hlt1 : ∀ k, F1 k → k < w1.heap.size := more_lt h7 on1.size
  have hFA1 : ∀ k, blk A1 = some k → F1 k := fun k hk => (kin1 k hk).elim (fun h => .inl (h5 k h)) (fun h => .inr ⟨h, m1.blk_lt k hk⟩)
  obtain ⟨f1, raw2, on2⟩ := raw_setO (F := F1) hb1 h31 (.inl h4) (fun k hk => .inl (h6 k hk)) hlt1 m1 hFA1
  rw [List.length_append] at raw2 on2
  obtain ⟨w2, hw2⟩ : ∃ w2, w2 = w1.setCell ⟨b, 1, none⟩ (.slice A1 (s.o.length + x.length) c1) := ⟨_, rfl⟩
  rw [← hw2] at raw2 on2
  have hb2 : w2.heap[b]? = some (.cells (rc s.R A1 (s.o ++ x).length c1 s.g B s.wh.length d s.D) 41 (0, 0)) := by
    rw [hw2, List.length_append]
    exact heap_setCell_same w1 b 1 _ _ _ hb1
  have os2 : Only (fun k => k = b) w1 w2 := by rw [hw2]; exact only_set w1 ⟨b, 1, none⟩ _
  have hm2 : Mid w2 A1 c1 (s.o ++ x) := m1.only os2 (fun k hk e => by
    subst e
    exact (rows_apart hb1 m1 h31).1 hk)
  have hv2 : MidV 3 w2 B d (s.wh.map iv) := h31.only os2 (fun k hk e => by
    subst e
    exact a2 hk)
  obtain ⟨B3, d3, w3, r3, m3, on3, kin3⟩ := hv2.app1 etInt (iv x.length) rfl (by simp; omega)
  rw [List.length_map] at r3
  obtain ⟨q1, q2, q3⟩ := rows_apart hb2 hm2 hv2
  have hb3 := (on3.block b (lt_of_block hb2) q2).trans hb2
  have hm3 := hm2.only on3 (fun k hk hk' => q3 k hk hk')
  have hsz2 : w.heap.size ≤ w2.heap.size := Nat.le_trans on1.size os2.size
  let F3 : Nat → Prop := more F w w3
  have hF13 : ∀ k, F1 k → F3 k := fun k hk => hk.elim .inl (fun h => .inr ⟨h.1, Nat.lt_of_lt_of_le h.2 (Nat.le_trans os2.size on3.size)⟩)
  have hlt3 : ∀ k, F3 k → k < w3.heap.size := more_lt h7 (Nat.le_trans hsz2 on3.size)
  have m3' : MidV 3 w3 B3 d3 ((s.wh ++ [x.length]).map iv) := by rw [List.map_append]; exact m3
  obtain ⟨f3, raw4, on4⟩ := raw_setW (F := F3) (wh' := s.wh ++ [x.length]) hb3 hm3 (.inl h4) (fun k hk => hF13 k (hFA1 k hk)) hlt3 m3' (fun k hk => (kin3 k hk).elim (fun h => .inl (h6 k h)) (fun h => .inr ⟨Nat.le_trans hsz2 h, m3.blk_lt k hk⟩))
  rw [show (s.wh ++ [x.length]).length = s.wh.length + 1 by simp] at raw4 on4
  refine ⟨A, c, B, d, (rcell h1).2.1, A1, c1, w1, fun ty => by rw [r1 ty, List.length_append], (rcell hb1).2.1, f1, w2, hw2, (rcell hb2).2.2.2.1, B3, d3, w3, r3, (rcell hb3).2.2.2.1, f3, ⟨⟨?_, okA⟩, ?_⟩⟩
  · have e1 : (⟨s.R, s.l ++ [x], s.beg, s.D⟩ : Rng).o = s.o ++ x := by simp [Rng.o]
    have e2 : (⟨s.R, s.l ++ [x], s.beg, s.D⟩ : Rng).g = s.g := gq
    have e3 : (⟨s.R, s.l ++ [x], s.beg, s.D⟩ : Rng).wh = s.wh ++ [x.length] := wq
    rw [e1, e2, e3]
    have hs4 : (w3.setCell ⟨b, 3, none⟩ (.slice B3 (s.wh.length + 1) d3)).heap.size = w3.heap.size := by simp [World.setCell]
    unfold more
    rw [hs4]
    exact raw4
  · have t1 : Only F w w1 := on1.mono (fun k _ hk => h5 k hk)
    have t2 : Only F w w2 := t1.trans os2 (fun k _ e => by rw [e]; exact h4)
    have t3 : Only F w w3 := t2.trans on3 (fun k _ hk => h6 k hk)
    exact t3.trans (only_set w3 ⟨b, 3, none⟩ _) (fun k _ e => by rw [e]; exact h4)
set_option maxRecDepth 20000 in
set_option maxHeartbeats 400000 in
theorem add_calls (h : PQ w F b s) (X : Option Addr) (e : Nat) (x : List UInt8) (hr : Rd w X x) (hd : x.length ≤ e) (hd' : e ≤ maxLen) :
    Calls Try.prog 10 #[.pointer (some ⟨b, 0, none⟩), .slice X x.length e] w fun r w' => r = .returned (.bool (s.fits x)) ∧ Turn F b (s.add x) w w' := by
  have HR := Lib.hid (Turn.refl h)
  have H0 := Lib.hid h
  have ok := h.2
  have hxz : x.length ≤ 9223372036854775807 := by unfold maxLen at hd'; omega
  obtain ⟨⟨A, c, B, d, hb, _⟩, _⟩ := h
  obtain ⟨c0, c1, c2, c3, c4⟩ := rcell hb
  have hol := ok.1
  have hRl := ok.2.1
  have hDl := ok.2.2.1
  have hw : wrap64 ((s.R : Int) - (s.o.length : Int)) = (s.R : Int) - (s.o.length : Int) := by unfold wrap64; omega
  by_cases hf : s.o.length + x.length ≤ s.R
  · have gf : ¬ (s.R : Int) - (s.o.length : Int) < (x.length : Int) := by omega
    by_cases hx : x = []
    · subst hx
      rw [(Rng.add_nil hf).1, (Rng.add_nil hf).2]
      have FI := Lib.hid (fun n => HR.out.drewN n)
      clear hb c2 c3 c4 H0 hf
      generalize s.o.length = m at *
      generalize s.R = R at *
      simp only [List.length_nil] at *
      go_enter Try.func10, Try.ntmps10
      go_wp2_with fail
      go_quiet (fail)
      go_wp2
      go_ret
      exact ⟨rfl, FI.out _⟩
    · have hxp : 0 < (x.length : Int) := by have := List.length_pos_iff.2 hx; omega
      have AM := Lib.hid (fun (v : World) (hv : PQ v F b s) (hrv : Rd v X x) => add_mem hv X e x hrv hx hf)
      have HH := Lib.hid (fun q : Nat => AM.out (w.drewN q) H0.out hr)
      rw [(Rng.add_yes hf hx).1]
      clear hb c2 c3 c4 H0 HR AM hr hx hf
      generalize s.o.length = m at *
      generalize s.R = R at *
      generalize x.length = n at *
      go_enter Try.func10, Try.ntmps10
      go_wp2_with fail
      go_quiet (fail)
      obtain ⟨A, c, B, d, k1, A1, c1, w1, r1, e1, e2, w2, hw2, e3, B3, d3, w3, r3, e4, e5, TT⟩ := HH.out nq
      have FI := Lib.hid TT.from_drewN
      clear TT HH
      go_upto_region 6 with (at_builtin; refine Lib.wpList_append_run _ rfl _ _ _ _ rfl _ _ rfl rfl _ _ (r1 _) ?_)
      rw [← hw2]
      clear hw2
      go_wp2_with (at_builtin; refine Lib.wpList_append_run _ rfl _ _ _ _ rfl _ _ rfl rfl _ _ (r3 _) ?_)
      go_ret
      exact ⟨rfl, FI.out⟩
  · have gf : (s.R : Int) - (s.o.length : Int) < (x.length : Int) := by omega
    have okA := ok.add x
    rw [(Rng.add_no hf).2] at okA
    rw [(Rng.add_no hf).1, (Rng.add_no hf).2]
    have hD : min ((s.D : Int) + 1) 4294967295 = ((min (s.D + 1) 4294967295 : Nat) : Int) := by omega
    have FI := Lib.hid (fun n => ((H0.out.1.drewN n).setD (min (s.D + 1) 4294967295)))
    have z4 := fun n => (FI.out n).1
    have FJ := Lib.hid (show ∀ n, Turn F b ⟨s.R, s.l, s.beg, min (s.D + 1) 4294967295⟩ w ((w.drewN n).setCell ⟨b, 4, none⟩ (.int .i64 ((min (s.D + 1) 4294967295 : Nat) : Int))) from fun n => Turn.from_drewN (n := n) (Turn.of_same ⟨(FI.out n).2.1, okA⟩ (FI.out n).2.2 H0.out.lt))
    have HD := Lib.hid hD
    have HDl := Lib.hid hDl
    clear hb c2 c3 H0 hf FI HR okA ok hD hDl
    generalize min (s.D + 1) 4294967295 = D' at *
    generalize s.o.length = m at *
    generalize hRR : s.R = R at *
    clear hRR
    generalize s.D = D at *
    generalize x.length = n at *
    go_enter Try.func10, Try.ntmps10
    go_wp2_with fail
    go_quiet (fail)
    have FK := Lib.hid (show ∀ z : Int, z = (D' : Int) → Turn F b ⟨R, s.l, s.beg, D'⟩ w ((w.drewN nq).setCell ⟨b, 4, none⟩ (.int .i64 z)) from fun z hz => by rw [hz]; exact FJ.out nq)
    have y4 := z4 nq
    clear FJ z4
    rcases Nat.lt_or_ge D 4294967295 with hq | hq
    · have e1 : ¬ (4294967295 : Int) < (D : Int) + 1 := by omega
      have e2 : ¬ (4294967295 : Int) ≤ (D : Int) := by omega
      have FI := Lib.hid (FK.out ((D : Int) + 1) (by have := HD.out; omega))
      clear FK
      go_wp2
      go_ret
      exact ⟨rfl, FI.out⟩
    · have hq' : D = 4294967295 := by have := HDl.out; omega
      subst hq'
      have FI := Lib.hid (FK.out 4294967295 (by have := HD.out; omega))
      clear FK hq
      go_wp2
      go_ret
      exact ⟨rfl, FI.out⟩
end
end Go.Proofs.Ytpjhehfhpeclhaa

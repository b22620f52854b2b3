/- Next of a log of the reference. No condition. -/
import Derived.Test.YteofffnfafhgfaaRlAdd
import Derived.Test.YteofffnfafhgfaaSerRefNum
import Derived.StillTailTactics
namespace Go.Proofs.Yteofffnfafhgfaa
open Go.RowKit
set_option linter.unusedVariables false

theorem rlNxt_calls (k M : Nat) (w : World) (h2 : k < M) (h3 : 1 ≤ M) (h4 : M ≤ 32768) :
    Calls Try.prog 26 #[.int .i64 (k : Int), .int .i64 (M : Int)] w fun e w' => e = .returned (.int .i64 (((k + 1) % M : Nat) : Int)) ∧ w' = w := by
  refine (refNext_calls k M w (by unfold I64; omega)).mono ?_
  rintro e w' ⟨rfl, rfl⟩
  unfold snxt
  rw [slim_mid (by omega) (by omega)]
  refine ⟨ret_int ?_, rfl⟩
  rw [Int.emod_eq_of_lt (a := (k : Int)) (by omega) (by omega), Int.natCast_emod]
  rfl
/-- slices that lead to their bytes in F lead there still, in G -/
def PcKeep (w w' : World) (F G : Nat → Prop) : Prop := ∀ v z, Pc w F v z → Pc w' G v z
section
variable {w : World} {F : Nat → Prop} {b m W Q x : Nat} {o : List (Int × List UInt8)} {t : List (List UInt8)} {y : List UInt8} {s : Lg}
/-- the first message that waits, and the copy of the others -/
theorem rl_rest (h : RlRaw w F b m W Q x o (y :: t)) (ht : t.length ≤ 10000) : ∃ g off d B dy, w.cell? ⟨b, 5, none⟩ = some (.slice (some ⟨g, off, none⟩) (t.length + 1) d) ∧ w.cell? ⟨g, off, none⟩ = some (.slice B y.length dy) ∧ Pc w F (.slice B y.length dy) y ∧ t.length + 1 ≤ d ∧ d ≤ maxLen ∧
    ∀ V, Below w.heap.size w V → V.cell? ⟨b, 5, none⟩ = some (.slice (some ⟨g, off, none⟩) (t.length + 1) d) ∧ ∀ C, (d = 1 ∧ C = some ⟨g, off, none⟩) ∨ C = some ⟨g, off + 1, none⟩ → ∃ A2 c2 V2, (∀ ty, (Builtin.append_ #[51, 51] ty #[.slice none 0 0, .slice C t.length (d - 1)]).run Try.prog V = .ok (.slice A2 t.length c2) V2) ∧
      V2.frozen? ⟨b, 5, none⟩ = false ∧ V2.cell? ⟨b, 5, none⟩ = some (.slice (some ⟨g, off, none⟩) (t.length + 1) d) ∧ Below V.heap.size V V2 ∧ RlRaw (V2.setCell ⟨b, 5, none⟩ (.slice A2 t.length c2)) (more F V V2) b m W Q x o t ∧ Only (fun k => k = b) V2 (V2.setCell ⟨b, 5, none⟩ (.slice A2 t.length c2)) ∧ PcKeep w (V2.setCell ⟨b, 5, none⟩ (.slice A2 t.length c2)) F (more F V V2) := by
  obtain ⟨A, c, cs, B, d, vs, h1, ⟨h2, h3⟩, ⟨h4, h5⟩, h6, h7, h8, h9⟩ := h
  obtain ⟨v, us, rfl, hv, hus⟩ := h5.cons_inv
  obtain ⟨g, off, rfl, k0, hd1, m0, m1⟩ := h4.rest
  obtain ⟨By, dy, rfl, hm, hF⟩ := hv
  have hlc := h4.1
  have hul := hus.len
  simp at hlc
  refine ⟨g, off, d, By, dy, (rlcell h1).2.2.2.2.2, k0, ⟨By, dy, rfl, hm, hF⟩, by omega, h4.2.1, fun V bV => ?_⟩
  have oV : Only (fun _ => False) w V := Only.of_below _ bV
  have hbV := (bV.block b (lt_of_block h1)).trans h1
  refine ⟨(rlcell hbV).2.2.2.2.2, fun C hC => ?_⟩
  -- the source, as a row of its own
  have src : MidV 28 V C (d - 1) us := by
    rcases hC with ⟨rfl, rfl⟩ | rfl
    · exact (m0 rfl).only oV (fun _ _ h => h)
    · exact m1.only oV (fun _ _ h => h)
  have key : ∃ A2 c2 V2, (∀ ty, (Builtin.append_ #[51, 51] ty #[.slice none 0 0, .slice C t.length (d - 1)]).run Try.prog V = .ok (.slice A2 t.length c2) V2) ∧ MidV 28 V2 A2 c2 us ∧ Below V.heap.size V V2 ∧ ∀ k, blk A2 = some k → V.heap.size ≤ k := by
    rcases hus' : us with _ | ⟨u, us'⟩
    · have ht0 : t.length = 0 := by rw [← hul, hus']; rfl
      refine ⟨none, 0, V, fun ty => ?_, MidV.nil _ _, Below.refl _ _, fun k hk => by simp [blk] at hk⟩
      rw [ht0]
      exact MidK.app0 (k := 1) ⟨etRow.und, etRow.info, etRow.one, Nat.le_trans etRow.small (by decide)⟩ (MidK.nil 28 1 V) C (d - 1) ty
    · obtain ⟨gc, oc, rfl⟩ : ∃ gc oc, C = some ⟨gc, oc, none⟩ := by rcases hC with ⟨_, rfl⟩ | rfl <;> exact ⟨_, _, rfl⟩
      have hcell : ∀ j u, us[j]? = some u → V.cell? ⟨gc, oc + j, none⟩ = some u := fun j u hj => by
        obtain ⟨g', off', e', hc⟩ := src.at_ hj
        injection e' with e'
        injection e' with e1 e2
        rw [e1, e2]
        exact hc
      have hone : ∀ u ∈ us, u.oneCell' = true := fun u hu => by
        obtain ⟨j, hj⟩ := List.mem_iff_getElem?.1 hu
        have hjl : j < t.length := by rw [← hul]; exact (List.getElem?_eq_some_iff.1 hj).1
        obtain ⟨B', d', e'⟩ := hus.get hjl
        rw [e'] at hj
        injection hj with hj
        rw [← hj]
        rfl
      obtain ⟨A2, c2, V2, r2, m2, o2, k2⟩ := (MidV.nil 28 V).app etRow gc oc (d - 1) us (by rw [hus']; simp) hcell hone (by simp; omega)
      rw [List.nil_append] at m2
      rw [hul, List.length_nil, Nat.zero_add] at r2
      rw [← hus']
      exact ⟨A2, c2, V2, r2, m2, o2.below (fun k hk => by simp [blk] at hk) (Nat.le_refl _), fun k hk => (k2 k hk).elim (fun h => by simp [blk] at h) id⟩
  obtain ⟨A2, c2, V2, r2, m2, b2, k2⟩ := key
  have o2 : Only (fun _ => False) V V2 := Only.of_below _ b2
  have hb2 := (b2.block b (lt_of_block hbV)).trans hbV
  have on : Only (fun _ => False) w V2 := oV.trans o2 (fun _ _ h => h)
  have kp : PcKeep w V2 F (more F V V2) := fun v z hp => hp.only on (fun _ _ _ h => h) (fun _ h => .inl h)
  have ltV : ∀ k, F k → k < V.heap.size := fun k hk => Nat.lt_of_lt_of_le (h9 k hk) bV.size
  have lt2 : ∀ k, more F V V2 k → k < V2.heap.size := more_lt ltV b2.size
  obtain ⟨z5, raw, on5⟩ := rl_set (F := more F V V2) (m := m) (W := W) (Q := Q) (x := x) (o := o) (A := A) (c := c) (cs := cs) (t := t) (B := A2) (d := c2) (vs := us) hb2 5 (.slice A2 t.length c2) (by simp [rlc]) (h2.only on (fun _ _ h => h)) (Ms.only on (fun _ _ _ h => h) (fun _ h => .inl h) h3) m2 (Pcs.only on (fun _ _ _ h => h) (fun _ h => .inl h) hus) (.inl h6) (fun k hk => .inl (h7 k hk)) (fun k hk => .inr ⟨k2 k hk, m2.blk_lt k hk⟩) lt2
  exact ⟨A2, c2, V2, r2, z5, (rlcell hb2).2.2.2.2.2, b2, raw, only_set V2 ⟨b, 5, none⟩ _, fun v z hp => (kp v z hp).only (only_set V2 ⟨b, 5, none⟩ _) (rl_off hb2 (by decide)) (fun _ h => h)⟩
/-- a message goes out -/
theorem rl_push (h : RlRaw w F b m W Q x o t) (ho : o.length ≤ 10000) (k : Int) {B : Option Addr} {dy : Nat} (hy : Pc w F (.slice B y.length dy) y) : ∃ A c, w.cell? ⟨b, 4, none⟩ = some (.slice A o.length c) ∧ (w.alloc (.cells #[.int .i64 k, .slice B y.length dy] 61)).cell? ⟨b, 4, none⟩ = some (.slice A o.length c) ∧
    ∃ A4 c4 V4, (∀ ty, (Builtin.append_ #[56, 56] ty #[.slice A o.length c, .slice (some ⟨w.heap.size, 0, none⟩) 1 1]).run Try.prog (w.alloc (.cells #[.int .i64 k, .slice B y.length dy] 61)) = .ok (.slice A4 (o.length + 1) c4) V4) ∧
      V4.cell? ⟨b, 4, none⟩ = some (.slice A o.length c) ∧ V4.frozen? ⟨b, 4, none⟩ = false ∧ RlRaw (V4.setCell ⟨b, 4, none⟩ (.slice A4 (o.length + 1) c4)) (more F w V4) b m W Q x (o ++ [(k, y)]) t ∧ Only F w (V4.setCell ⟨b, 4, none⟩ (.slice A4 (o.length + 1) c4)) ∧ w.heap.size ≤ V4.heap.size ∧ PcKeep w (V4.setCell ⟨b, 4, none⟩ (.slice A4 (o.length + 1) c4)) F (more F w V4) := by
  obtain ⟨A, c, cs, B', d, vs, h1, ⟨h2, h3⟩, ⟨h4, h5⟩, h6, h7, h8, h9⟩ := h
  obtain ⟨A4, c4, V4, r4, m4, o4, k4⟩ := h2.app1 etMsg (by decide) [.int .i64 k, .slice B y.length dy] rfl (fun u hu => by
    rcases List.mem_cons.1 hu with rfl | hu
    · rfl
    · rw [List.mem_singleton.1 hu]; rfl) (by omega)
  have hb4 := (o4.block b (lt_of_block h1) (fun e => by
    obtain ⟨cur, t1⟩ := h2.type b e
    exact types_apart (by decide) t1 h1)).trans h1
  have hba : ((w.alloc (.cells #[.int .i64 k, .slice B y.length dy] 61)).heap[b]? : Option Obj) = w.heap[b]? := Below.heap_alloc _ _ _ (by have := lt_of_block h1; omega)
  have hs4 := o4.size
  have lt4 : ∀ k, more F w V4 k → k < V4.heap.size := more_lt h9 hs4
  have kp : PcKeep w V4 F (more F w V4) := fun v z hp => hp.only o4 (pcs_off_msgs h2) (fun _ h => .inl h)
  have g4 := h4.only o4 (rows_off_msgs h2 h4)
  obtain ⟨z4, raw, on4⟩ := rl_set (F := more F w V4) (m := m) (W := W) (Q := Q) (x := x) (o := o ++ [(k, y)]) (A := A4) (c := c4) (cs := cs ++ [.int .i64 k, .slice B y.length dy]) (t := t) (B := B') (d := d) (vs := vs) hb4 4 (.slice A4 (o.length + 1) c4) (by simp [rlc]) (by simpa using m4) ((Ms.only o4 (pcs_off_msgs h2) (fun _ h => .inl h) h3).app (kp _ _ hy)) g4 (Pcs.only o4 (pcs_off_msgs h2) (fun _ h => .inl h) h5) (.inl h6) (fun q hq => (k4 q hq).elim (fun h => .inl (h7 q h)) (fun h => .inr ⟨h, m4.blk_lt q hq⟩)) (fun q hq => .inl (h8 q hq)) lt4
  exact ⟨A, c, (rlcell h1).2.2.2.2.1, (rlcell (hba.trans h1)).2.2.2.2.1, A4, c4, V4, r4, (rlcell hb4).2.2.2.2.1, z4, raw, (o4.mono (fun q _ hq => h7 q hq)).trans (only_set V4 ⟨b, 4, none⟩ _) (fun q _ e => by rw [e]; exact h6), hs4, fun v z hp => (kp v z hp).only (only_set V4 ⟨b, 4, none⟩ _) (rl_off hb4 (by decide)) (fun _ h => h)⟩
/-- the next number has turned -/
theorem rl_setX (h : RlRaw w F b m W Q x o t) (x' : Nat) : w.cell? ⟨b, 0, none⟩ = some (.int .i64 (m : Int)) ∧ w.cell? ⟨b, 3, none⟩ = some (.int .i64 (x : Int)) ∧ w.frozen? ⟨b, 3, none⟩ = false ∧ RlRaw (w.setCell ⟨b, 3, none⟩ (.int .i64 (x' : Int))) F b m W Q x' o t ∧ Only F w (w.setCell ⟨b, 3, none⟩ (.int .i64 (x' : Int))) ∧ PcKeep w (w.setCell ⟨b, 3, none⟩ (.int .i64 (x' : Int))) F F := by
  obtain ⟨A, c, cs, B, d, vs, h1, ⟨h2, h3⟩, ⟨h4, h5⟩, h6, h7, h8, h9⟩ := h
  obtain ⟨z, raw, on⟩ := rl_set (F := F) (m := m) (W := W) (Q := Q) (x := x') (o := o) (A := A) (c := c) (cs := cs) (t := t) (B := B) (d := d) (vs := vs) h1 3 (.int .i64 (x' : Int)) (by simp [rlc]) h2 h3 h4 h5 h6 h7 h8 h9
  exact ⟨(rlcell h1).1, (rlcell h1).2.2.2.1, z, raw, on, fun v z hp => hp.only (only_set w ⟨b, 3, none⟩ _) (rl_off h1 (by decide)) (fun _ h => h)⟩
/-- a message comes into a box of its own -/
theorem rl_box (w : World) (q : Nat) (k : Int) (v : Value) :
    ((w.drewN q).alloc (.cells #[.int .i64 0, .slice none 0 0] 61)).cell? ⟨w.heap.size, 0, none⟩ = some (.int .i64 0) ∧
    ((w.drewN q).alloc (.cells #[.int .i64 0, .slice none 0 0] 61)).cell? ⟨w.heap.size, 1, none⟩ = some (.slice none 0 0) ∧
    ((w.drewN q).alloc (.cells #[.int .i64 0, .slice none 0 0] 61)).frozen? ⟨w.heap.size, 0, none⟩ = false ∧
    ((w.drewN q).alloc (.cells #[.int .i64 0, .slice none 0 0] 61)).frozen? ⟨w.heap.size, 1, none⟩ = false ∧
    (((w.drewN q).alloc (.cells #[.int .i64 0, .slice none 0 0] 61)).setCell ⟨w.heap.size, 0, none⟩ (.int .i64 k)).cell? ⟨w.heap.size, 1, none⟩ = some (.slice none 0 0) ∧
    (((w.drewN q).alloc (.cells #[.int .i64 0, .slice none 0 0] 61)).setCell ⟨w.heap.size, 0, none⟩ (.int .i64 k)).frozen? ⟨w.heap.size, 1, none⟩ = false ∧
    ∃ V, (((w.drewN q).alloc (.cells #[.int .i64 0, .slice none 0 0] 61)).setCell ⟨w.heap.size, 0, none⟩ (.int .i64 k)).setCell ⟨w.heap.size, 1, none⟩ v = V ∧ Below w.heap.size w V ∧ V.heap[w.heap.size]? = some (.cells #[.int .i64 k, v] 61 (0, 0)) := by
  have h0 : ((w.drewN q).alloc (.cells #[.int .i64 0, .slice none 0 0] 61)).heap[w.heap.size]? = some (.cells #[.int .i64 0, .slice none 0 0] 61 (0, 0)) := heap_alloc_new (w.drewN q) _
  have h1 := heap_setCell_same _ w.heap.size 0 _ _ (.int .i64 k) h0
  have h2 := heap_setCell_same _ w.heap.size 1 _ _ v h1
  refine ⟨?_, ?_, frozen_of_row _ _ _ _ _ h0, frozen_of_row _ _ _ _ _ h0, ?_, frozen_of_row _ _ _ _ _ h1, _, rfl, ?_, h2⟩
  · rw [cell_of_row _ _ _ _ _ (0, 0) h0]; rfl
  · rw [cell_of_row _ _ _ _ _ (0, 0) h0]; rfl
  · rw [cell_of_row _ _ _ _ _ (0, 0) h1]; rfl
  · have b1 : Below w.heap.size w ((w.drewN q).alloc (.cells #[.int .i64 0, .slice none 0 0] 61)) :=
      (show Below w.heap.size w (w.drewN q) from ⟨rfl, rfl, rfl, Nat.le_refl _, fun _ _ => rfl⟩).alloc (Nat.le_refl _) _
    exact (b1.setCell (Nat.le_refl _) _).setCell (Nat.le_refl _) _
theorem RlRaw.mem (h : RlRaw w F b m W Q x o t) : F b := by obtain ⟨_, _, _, _, _, _, _, _, _, h, _⟩ := h; exact h
/-- all that has turned is what was the log's and what is new -/
theorem rl_end {G : Nat → Prop} {V V' : World} (hR : ∀ k, F k → k < w.heap.size) (hG : ∀ k, G k → F k ∨ w.heap.size ≤ k) (raw : RlRaw V G b m W Q x o t) (on : Only F w V) (bel : Below V.heap.size V V') : RlRaw V' (more F w V') b m W Q x o t ∧ Only F w V' := by
  have o1 : Only (fun _ => False) V V' := Only.of_below _ bel
  obtain ⟨A, c, cs, B, d, vs, h1, ⟨h2, h3⟩, ⟨h4, h5⟩, h6, h7, h8, h9⟩ := raw.only o1 (fun _ _ h => h)
  have hw : ∀ k, G k → more F w V' k := fun k hk => (hG k hk).elim .inl (fun h => .inr ⟨h, h9 k hk⟩)
  exact ⟨⟨A, c, cs, B, d, vs, h1, ⟨h2, Ms.only (G := fun _ => False) (Only.refl _ _) (fun _ _ _ h => h) hw h3⟩, ⟨h4, Pcs.only (G := fun _ => False) (Only.refl _ _) (fun _ _ _ h => h) hw h5⟩, hw b h6, fun k hk => hw k (h7 k hk), fun k hk => hw k (h8 k hk), more_lt hR (Nat.le_trans on.size bel.size)⟩, on.trans o1 (fun _ _ h => h.elim)⟩
/-- what Next returns, and what it leaves -/
def RlNexted (F : Nat → Prop) (b : Nat) (s : Lg) (w : World) (e : Ending) (w' : World) : Prop :=
  ∃ A c, e = .returned (.tuple #[.int .i64 (s.nextN : Int), .slice A s.nextX.length c, .bool (!s.stop)]) ∧ Rd w' A s.nextX ∧ RlTurn F b s.next w w'
set_option maxRecDepth 20000 in
set_option maxHeartbeats 1000000 in
theorem rlNext_calls (h : RlP w F b s) : Calls Try.prog 14 #[.pointer (some ⟨b, 0, none⟩)] w (RlNexted F b s w) := by
  have ok := h.2
  have H0 := Lib.hid h
  have hol := Lg.outM_len s
  have hwl := Lg.wait_len s
  have hnl := ok.nl
  cases hs : s.stop
  · obtain ⟨e1, e2⟩ := Lg.stop_false hs
    have hn : s.n < s.l.length := by omega
    obtain ⟨eW, eO⟩ := Lg.next_wait hn hs
    have hll := ok.len
    have hraw := Lib.hid h.1
    rw [eW] at hraw
    have okN := Lib.hid ok.next
    have eN : s.next.m = s.m ∧ s.next.W = s.W ∧ s.next.Q = s.Q ∧ s.nextX = s.l.getD s.n [] ∧ s.nextN = s.nx := by unfold Lg.next Lg.nextX Lg.nextN; rw [hs]; exact ⟨rfl, rfl, rfl, rfl, rfl⟩
    have hnx := Lg.next_nx hs
    have htl : s.next.wait.length ≤ 10000 := by rw [eW, List.length_cons] at hwl; omega
    have hol' : s.outM.length ≤ 10000 := by omega
    have g1 : (((s.l.getD s.n [] :: s.next.wait).length : Int) == 0) = false := by simp; omega
    have g2 : ¬ (s.W : Int) ≤ (s.outM.length : Int) := by omega
    have hx := Lg.get_small ok s.n
    have NXT := fun v => rlNxt_calls s.nx s.m v (Lg.nx_lt ok) (by have := ok.m8; omega) ok.m9
    rw [← hnx] at NXT
    obtain ⟨xn, hxn⟩ : ∃ xn, s.next.nx = xn := ⟨_, rfl⟩
    rw [hxn] at NXT
    have HXN := Lib.hid hxn
    clear hnx hxn
    obtain ⟨⟨A, c, cs, B, d, vs, hb, _⟩, _⟩ := h
    rw [eW] at hb
    obtain ⟨c0, c1, c2, c3, c4, c5⟩ := rlcell hb
    have hy3 := frozen_of_row w b 3 _ _ hb
    obtain ⟨gq, oq, dq, Bq, dyq, q5, qg, hpq, hd1, hd2, hrest⟩ := rl_rest hraw.out htl
    rw [List.length_cons] at c5 g1
    have REST := Lib.hid hrest
    have HPQ := Lib.hid hpq
    clear hrest hb c2 hpq
    generalize ht' : s.next.wait = t' at *
    have HT := Lib.hid ht'
    clear ht'
    generalize s.l.getD s.n [] = y at *
    have gn : (0 : Int) < (t'.length : Int) + 1 := by omega
    go_enter Try.func14, Try.ntmps14
    go_wp2_with fail
    go_quiet (fail)
    have hgl : gq < w.heap.size := World.block_lt_of_cell? w _ qg
    have hbl : b < w.heap.size := World.block_lt_of_cell? w _ c3
    have d3 : (w.drewN (nq + 1)).cell? ⟨b, 3, none⟩ = some (.int .i64 (s.nx : Int)) := c3
    have d5 : (w.drewN (nq + 1)).cell? ⟨b, 5, none⟩ = some (.slice (some ⟨gq, oq, none⟩) (t'.length + 1) dq) := q5
    have dg : (w.drewN (nq + 1)).cell? ⟨gq, oq, none⟩ = some (.slice Bq y.length dyq) := qg
    have al : ∀ (o : Obj) (p : Addr), p.block < w.heap.size → ((w.drewN (nq + 1)).alloc o).cell? p = (w.drewN (nq + 1)).cell? p := fun o p hp => World.cell?_of_block (Below.heap_alloc _ _ _ (show p.block < (w.drewN (nq + 1)).heap.size from by simpa using hp))
    have f3 := (al (.cells #[.int .i64 0, .slice none 0 0] 61) ⟨b, 3, none⟩ hbl).trans d3
    have f5 := (al (.cells #[.int .i64 0, .slice none 0 0] 61) ⟨b, 5, none⟩ hbl).trans d5
    have fg := (al (.cells #[.int .i64 0, .slice none 0 0] 61) ⟨gq, oq, none⟩ hgl).trans dg
    have hZ := heap_alloc_new (w.drewN (nq + 1)) (.cells #[.int .i64 0, .slice none 0 0] 61)
    obtain ⟨a0, a1, z0, z1, u1, u2, V, hV, bV, hbox⟩ := rl_box w (nq + 1) (s.nx : Int) (.slice Bq y.length dyq)
    go_wp2_with fail
    go_region
    clear a0 a1 z0 z1 u1 u2 f3 f5 fg d3 d5 dg al hZ
    obtain ⟨k5, hcut⟩ := REST.out V bV
    have HBX := Lib.hid hbox
    have HBV := Lib.hid bV
    obtain ⟨C, hC⟩ : ∃ C : Option Addr, (dq = 1 ∧ C = some ⟨gq, oq, none⟩) ∨ (¬ dq = 1 ∧ C = some ⟨gq, oq + 1, none⟩) := by
      by_cases h : dq = 1
      · exact ⟨_, .inl ⟨h, rfl⟩⟩
      · exact ⟨_, .inr ⟨h, rfl⟩⟩
    obtain ⟨A2, c2, V2, r2, z5, k5', b2, raw3, on3, kp3⟩ := hcut C (hC.elim (fun h => .inl h) (fun h => .inr h.2))
    clear hcut hbox bV
    have R3 := Lib.hid (And.intro raw3 (And.intro on3 kp3))
    clear raw3 on3 kp3
    have HB2 := Lib.hid b2
    have HFB := Lib.hid hraw.out.mem
    have HR := Lib.hid hraw.out.lt
    clear b2
    obtain ⟨cc, hcc⟩ : ∃ cc, cc = dq - 1 := ⟨_, rfl⟩
    rw [← hcc] at r2
    have hC : (dq = 1 ∧ C = some ⟨gq, oq, none⟩ ∧ cc = 0) ∨ (¬ dq = 1 ∧ C = some ⟨gq, oq + 1, none⟩ ∧ cc = dq - 1) := by
      rcases hC with ⟨h1, h2⟩ | ⟨h1, h2⟩
      · exact .inl ⟨h1, h2, by omega⟩
      · exact .inr ⟨h1, h2, hcc⟩
    clear hcc
    rcases hC with ⟨hdq, rfl, rfl⟩ | ⟨hdq, rfl, rfl⟩
    all_goals
      go_wp2_with (at_builtin; refine Lib.wpList_append_run _ rfl _ _ _ _ rfl _ _ rfl rfl _ _ (r2 _) ?_)
      obtain ⟨V3, hV3⟩ : ∃ V3, V2.setCell ⟨b, 5, none⟩ (.slice A2 t'.length c2) = V3 := ⟨_, rfl⟩
      rw [hV3] at R3 ⊢
      clear hV3 r2 z5 k5 k5'
      obtain ⟨raw3, on3, kp3⟩ := R3.out
      have hbx3 : V3.heap[w.heap.size]? = some (.cells #[.int .i64 (s.nx : Int), .slice Bq y.length dyq] 61 (0, 0)) :=
        (on3.block _ (Nat.lt_of_lt_of_le (lt_of_block HBX.out) HB2.out.size) (fun e => by omega)).trans ((HB2.out.block _ (lt_of_block HBX.out)).trans HBX.out)
      have hs3 : w.heap.size ≤ V3.heap.size := Nat.le_trans HBV.out.size (Nat.le_trans HB2.out.size on3.size)
      obtain ⟨A4, c4', p1, p2, A5, c5', V4, r4, p3, p4, raw5, on5, hs5, kp5⟩ := rl_push (raw3.drewN 1) hol' (s.nx : Int) (show Pc (V3.drewN 1) _ (.slice Bq y.length dyq) y from kp3 _ _ HPQ.out)
      have hp0 : V3.drew.cell? ⟨w.heap.size, 0, none⟩ = some (.int .i64 (s.nx : Int)) := by
        show V3.cell? _ = _
        rw [cell_of_row V3 _ _ _ _ (0, 0) hbx3]; rfl
      have hp1 : V3.drew.cell? ⟨w.heap.size, 1, none⟩ = some (.slice Bq y.length dyq) := by
        show V3.cell? _ = _
        rw [cell_of_row V3 _ _ _ _ (0, 0) hbx3]; rfl
      have p1' : V3.drew.cell? ⟨b, 4, none⟩ = some (.slice A4 s.outM.length c4') := p1
      have p2' : (V3.drew.alloc (.cells #[.int .i64 (s.nx : Int), .slice Bq y.length dyq] 61)).cell? ⟨b, 4, none⟩ = some (.slice A4 s.outM.length c4') := p2
      rw [hol] at r4 p1' p2' p3 raw5 on5 kp5
      have r4' : ∀ ty, (Builtin.append_ #[56, 56] ty #[.slice A4 s.n c4', .slice (some ⟨V3.heap.size, 0, none⟩) 1 1]).run Try.prog (V3.drew.alloc (.cells #[.int .i64 (s.nx : Int), .slice Bq y.length dyq] 61)) = .ok (.slice A5 (s.n + 1) c5') V4 := r4
      have p2'' : (V3.alloc (.cells #[.int .i64 (s.nx : Int), .slice Bq y.length dyq] 61)).cell? ⟨b, 4, none⟩ = some (.slice A4 s.n c4') := p2'
      have R5 := Lib.hid (And.intro raw5 (And.intro on5 (And.intro hs5 kp5)))
      clear raw3 on3 kp3 raw5 on5 hs5 kp5 p1 p2 r4
      go_wp2_with fail
      go_region_law (first
        | ((with_reducible refine step_append_run _ ?_ (.tmp 48) (.tmp 50) _ _ ?_ _ _ ?_ ?_ _ _ (r4' _) ?_); rfl; rfl; (focus (first | (simp [Act.eval]; done) | (simp [Act.eval, Act.put]; done))); (focus (first | (simp [Act.eval]; done) | (simp [Act.eval, Act.put]; done)))))
      all_goals
        obtain ⟨V5, hV5⟩ : ∃ V5, V4.setCell ⟨b, 4, none⟩ (.slice A5 (s.n + 1) c5') = V5 := ⟨_, rfl⟩
        rw [hV5] at R5 ⊢
        clear hV5 r4' p1' p2' p2'' p3 p4 hp0 hp1
        obtain ⟨raw5, on5, hs5, kp5⟩ := R5.out
        obtain ⟨x0, x3, xz, raw6, on6, kp6⟩ := rl_setX raw5 xn
        have hbx5 : V5.heap[w.heap.size]? = some (.cells #[.int .i64 (s.nx : Int), .slice Bq y.length dyq] 61 (0, 0)) :=
          (on5.block _ (lt_of_block hbx3) (fun hk => hk.elim (fun h => by have := HR.out _ h; omega) (fun h => by have := lt_of_block HBX.out; omega))).trans hbx3
        have R6 := Lib.hid (And.intro raw6 (And.intro on6 kp6))
        clear raw5 kp5 raw6 on6 kp6 on5
        have x0' : V5.drew.cell? ⟨b, 0, none⟩ = some (.int .i64 (s.m : Int)) := x0
        have x3' : V5.drew.cell? ⟨b, 3, none⟩ = some (.int .i64 (s.nx : Int)) := x3
        go_wp2
        refine wp_region_still_tail 12 (by kernel_rfl) (by kernel_rfl) ?_
        simp only [List.take_succ_cons, List.take_zero, List.drop_succ_cons, List.drop_zero]
        repeat still_step
        still_call (NXT _)
        repeat still_step
        refine wpStill_nil ?_
        go_wp2
        obtain ⟨V6, hV6⟩ : ∃ V6, V5.setCell ⟨b, 3, none⟩ (.int .i64 (xn : Int)) = V6 := ⟨_, rfl⟩
        rw [hV6] at R6 ⊢
        clear hV6 x0 x3 x0' x3' xz
        obtain ⟨raw6, on6, kp6⟩ := R6.out
        have hG3 : ∀ k, more F V V2 k → F k ∨ w.heap.size < k := fun k hk => hk.elim .inl (fun h => .inr (by have := lt_of_block HBX.out; omega))
        have hG6 : ∀ k, more (more F V V2) (V3.drewN 1) V4 k → F k ∨ w.heap.size < k := fun k hk => hk.elim (hG3 k) (fun h => .inr (Nat.lt_of_lt_of_le (lt_of_block hbx3) h.1))
        have hbx6 : V6.heap[w.heap.size]? = some (.cells #[.int .i64 (s.nx : Int), .slice Bq y.length dyq] 61 (0, 0)) :=
          (on6.block _ (lt_of_block hbx5) (fun hk => (hG6 _ hk).elim (fun h => Nat.lt_irrefl _ (HR.out _ h)) (Nat.lt_irrefl _))).trans hbx5
        have o6 : Only F w V6 := by
          have o1 : Only F w V2 := (Only.of_below F HBV.out).trans (Only.of_below F HB2.out) (fun _ _ h => h)
          have o3 : Only F w V3 := o1.trans R3.out.2.1 (fun k _ e => by rw [e]; exact HFB.out)
          have o5 : Only F w V5 := (only_drewN o3 1).trans R5.out.2.1 (fun k hk h => (hG3 k h).elim id (fun h => by omega))
          exact o5.trans on6 (fun k hk h => (hG6 k h).elim id (fun h => by omega))
        obtain ⟨A8, c8, V8, r8, m8, b8, k8⟩ := app_nil (V := V6.drewN 2) (C := Bq) (d := dyq) (x := y) (m := y.length) (by
          obtain ⟨B9, d9, e9, h9, _⟩ := kp6 _ _ (R5.out.2.2.2 _ _ (show Pc (V3.drewN 1) _ (.slice Bq y.length dyq) y from R3.out.2.2 _ _ HPQ.out))
          injection e9 with e9 _ e10
          rw [e9]
          exact h9.rd) rfl hx
        have FI := Lib.hid (show RlNexted F b s w (.returned (.tuple #[.int .i64 (s.nx : Int), .slice A8 y.length c8, .bool true])) V8 from by
          unfold RlNexted
          rw [eN.2.2.2.1, eN.2.2.2.2, hs]
          obtain ⟨q1, q2⟩ := rl_end HR.out (fun k hk => (hG6 k hk).elim .inl (fun h => .inr (Nat.le_of_lt h))) (raw6.drewN 2) (only_drewN o6 2) b8
          refine ⟨A8, c8, rfl, m8.rd, ⟨⟨?_, okN.out⟩, q2⟩⟩
          rw [eN.1, eN.2.1, eN.2.2.1, HXN.out, eO, HT.out]
          exact q1)
        have d0 : V6.drew.drew.cell? ⟨w.heap.size, 0, none⟩ = some (.int .i64 (s.nx : Int)) := by
          show V6.cell? _ = _
          rw [cell_of_row V6 _ _ _ _ (0, 0) hbx6]; rfl
        have d1 : V6.drew.drew.cell? ⟨w.heap.size, 1, none⟩ = some (.slice Bq y.length dyq) := by
          show V6.cell? _ = _
          rw [cell_of_row V6 _ _ _ _ (0, 0) hbx6]; rfl
        have r8' : ∀ ty, (Builtin.append_ #[28, 28] ty #[.slice none 0 0, .slice Bq y.length dyq]).run Try.prog V6.drew.drew = .ok (.slice A8 y.length c8) V8 := r8
        have d0' : V8.cell? ⟨w.heap.size, 0, none⟩ = some (.int .i64 (s.nx : Int)) := by
          rw [cell_of_row V8 _ _ _ _ (0, 0) ((b8.block _ (lt_of_block hbx6)).trans hbx6)]; rfl
        clear hG3 hG6 raw6 on6 kp6 o6 m8 b8 k8 r8 R3 R5 R6 hbx3 hbx5 hbx6
        go_region_law (first
          | ((with_reducible refine step_append_run _ ?_ (.const (.slice none 0 0)) (.tmp 69) _ _ ?_ _ _ ?_ ?_ _ _ (r8' _) ?_); rfl; rfl; (focus (first | (simp [Act.eval]; done) | (simp [Act.eval, Act.put]; done))); (focus (first | (simp [Act.eval]; done) | (simp [Act.eval, Act.put]; done)))))
        all_goals
          go_wp2
          go_ret3
          exact FI.out
  · have FI := Lib.hid (show ∀ q, RlNexted F b s w (.returned (.tuple #[.int .i64 0, .slice none 0 0, .bool false])) (w.drewN q) from fun q => by
      have ex : s.nextX = [] := by unfold Lg.nextX; rw [if_pos hs]
      have eN : s.nextN = 0 := by unfold Lg.nextN; rw [if_pos hs]
      have en : s.next = s := by unfold Lg.next; rw [if_pos hs]
      unfold RlNexted
      rw [ex, eN, hs, en]
      exact ⟨none, 0, rfl, Rd.nil _ _, (RlTurn.refl H0.out).drewN q⟩)
    obtain ⟨⟨A, c, cs, B, d, vs, hb, _⟩, _⟩ := h
    obtain ⟨c0, c1, c2, c3, c4, c5⟩ := rlcell hb
    by_cases g0 : s.n = s.l.length
    · have g1 : ((s.wait.length : Int) == 0) = true := beq_iff_eq.2 (by omega)
      clear hb c0 c2 c3 c4 H0 ok hs hnl hwl
      generalize s.wait.length = m at *
      clear g0
      go_enter Try.func14, Try.ntmps14
      go_wp2_with fail
      go_quiet (fail)
      go_wp2
      go_ret3
      exact FI.out _
    · have g1 : ((s.wait.length : Int) == 0) = false := beq_eq_false_iff_ne.2 (by omega)
      have g2 : (s.W : Int) ≤ (s.outM.length : Int) := by unfold Lg.stop at hs; simp at hs; omega
      clear hb c0 c2 c3 H0 ok hs hnl hwl hol
      generalize s.wait.length = m at *
      generalize s.outM.length = n at *
      generalize s.W = W at *
      clear g0
      go_enter Try.func14, Try.ntmps14
      go_wp2_with fail
      go_quiet (fail)
      go_wp2
      go_ret3
      exact FI.out _
end
end Go.Proofs.Yteofffnfafhgfaa

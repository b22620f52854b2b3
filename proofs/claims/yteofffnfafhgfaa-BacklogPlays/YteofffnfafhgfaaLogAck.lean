/- Ack of a log of the program. Condition: the number is one of 64 bits. -/
import Derived.Test.YteofffnfafhgfaaLogMem
import Derived.Test.YteofffnfafhgfaaClearRun
namespace Go.Proofs.Yteofffnfafhgfaa
open Go.RowKit
set_option linter.unusedVariables false

theorem Pcs.drop {w : World} {F : Nat → Prop} : ∀ {vs : List Value} {l : List (List UInt8)}, Pcs w F vs l → ∀ k, Pcs w F (vs.drop k) (l.drop k)
  | [], [], _, k => by simp [Pcs]
  | _ :: _, _ :: _, h, 0 => h
  | _ :: _, _ :: _, h, k + 1 => by simpa using Pcs.drop h.2 k
  | [], _ :: _, h, _ => h.elim
  | _ :: _, [], h, _ => h.elim
/-- a cut from k on -/
theorem MidV.cut {e : TypeId} {w : World} {g off c : Nat} {vs : List Value} (h : MidV e w (some ⟨g, off, none⟩) c vs) {k : Nat} (hk : k ≤ vs.length) (B : Option Addr) (hB : (c = k ∧ B = some ⟨g, off, none⟩) ∨ B = some ⟨g, off + k, none⟩) : MidV e w B (c - k) (vs.drop k) := by
  have h1 := h.1
  refine ⟨by rw [List.length_drop]; omega, by have := h.2.1; omega, ?_⟩
  rcases h.2.2 with ⟨h0, _⟩ | ⟨g', off', cur, e', hg, hs, hc⟩
  · cases h0
  injection e' with e'
  injection e' with e1 e2 e3
  subst e1 e2
  rcases hB with ⟨rfl, rfl⟩ | rfl
  · exact .inr ⟨g, off, cur, rfl, hg, by omega, fun j u hu => by rw [List.drop_eq_nil_of_le (by omega)] at hu; simp at hu⟩
  · refine .inr ⟨g, off + k, cur, rfl, hg, by omega, fun j u hu => ?_⟩
    rw [List.getElem?_drop] at hu
    rw [Nat.add_assoc]
    exact hc (k + j) u hu
theorem zeroSlice (w : World) : (zeroValue 28).run Try.prog w = .ok (.slice none 0 0) w := by
  have hi : (Try.prog.info? 28).map (fun i => i.zero) = some (some (.slice none 0 0)) := by kernel_rfl
  cases hq : Try.prog.info? 28 with
  | none => rw [hq] at hi; cases hi
  | some i =>
    rw [hq] at hi
    have hi : i.zero = some (.slice none 0 0) := by simpa using hi
    simp [zeroValue, typeInfo, hq, hi]
/-- the first d elements are cleared and cut off -/
theorem MidV.wiped {w : World} {g off c : Nat} {vs : List Value} (h : MidV 28 w (some ⟨g, off, none⟩) c vs) {d : Nat} (hd : d ≤ vs.length) :
    ∃ w', (∀ ty, (Builtin.clear_ #[51] ty #[.slice (some ⟨g, off, none⟩) d c]).run Try.prog w = .ok (.tuple #[]) w') ∧ Only (fun k => k = g) w w' ∧ ∀ B, (c = d ∧ B = some ⟨g, off, none⟩) ∨ B = some ⟨g, off + d, none⟩ → MidV 28 w' B (c - d) (vs.drop d) := by
  have h1 := h.1
  obtain ⟨cur, hg, hs⟩ : ∃ cur, w.heap[g]? = some (.cells cur 28 (0, 0)) ∧ off + c ≤ cur.size := by
    rcases h.2.2 with ⟨h0, _⟩ | ⟨g', off', cur, e', hg, hs, hc⟩
    · cases h0
    injection e' with e'
    injection e' with e1 e2 e3
    subst e1 e2
    exact ⟨cur, hg, hs⟩
  rcases Nat.eq_zero_or_pos d with rfl | hp
  · refine ⟨w, fun ty => by simp [Builtin.clear_, run_underlying Try.underlying51], Only.refl _ _, fun B hB => h.cut (Nat.zero_le _) B hB⟩
  · refine ⟨w.setCells g off (List.replicate d (.slice none 0 0)), fun ty => Lib.run_clear_slice w 51 28 ty (.slice none 0 0) Try.underlying51 zeroSlice rfl rfl g off d c hp (fun j hj => some_of_row hg (by omega)) (fun j hj => frozen_of_row w g _ _ _ hg), Only.setCells w g _ _, fun B hB => ?_⟩
    have hc := h.cut hd B hB
    obtain ⟨cur', hg', hs'⟩ := setCells_block g 28 (List.replicate d (.slice none 0 0)) off w cur hg
    refine ⟨hc.1, hc.2.1, ?_⟩
    rcases hB with ⟨rfl, rfl⟩ | rfl
    · exact .inr ⟨g, off, cur', rfl, hg', by omega, fun j u hu => by rw [List.drop_eq_nil_of_le (by omega)] at hu; simp at hu⟩
    · refine .inr ⟨g, off + d, cur', rfl, hg', by omega, fun j u hu => ?_⟩
      rw [World.cell?_setCells_out g _ _ w _ (fun _ _ => .inr (by simp))]
      rcases hc.2.2 with ⟨h0, _⟩ | ⟨g', off', cur2, e', _, _, hcl⟩
      · cases h0
      injection e' with e'
      injection e' with e1 e2 e3
      subst e1 e2
      exact hcl j u hu
/-- what Ack returns, and what it leaves -/
def LgAcked (F : Nat → Prop) (b : Nat) (s : Lg) (k : Int) (w : World) (e : Ending) (w' : World) : Prop :=
  e = .returned (.tuple #[.int .i64 (s.ackN k : Int), .bool (s.hit k)]) ∧ LgP w' F b (s.ack k) ∧ Only F w w'
section
variable {w : World} {F : Nat → Prop} {b : Nat} {s : Lg}
theorem lgAck_mem (h : LgP w F b s) {j : Nat} (hj : j < s.m) (hd : s.ds j ≤ s.n) :
    ∃ A c, w.cell? ⟨b, 5, none⟩ = some (.slice A s.l.length c) ∧ s.l.length ≤ c ∧ c ≤ maxLen ∧ ((A = none ∧ s.l.length = 0 ∧ c = 0 ∧ s.ds j = 0 ∧ ∀ q, LgP (((w.drewN q).setCell ⟨b, 3, none⟩ (.int .i64 (j : Int))).setCell ⟨b, 5, none⟩ (.slice none 0 0)) F b (s.ack j) ∧ Only F w (((w.drewN q).setCell ⟨b, 3, none⟩ (.int .i64 (j : Int))).setCell ⟨b, 5, none⟩ (.slice none 0 0))) ∨
      ∃ g off, A = some ⟨g, off, none⟩ ∧ ∀ q, ∃ w2, (∀ ty, (Builtin.clear_ #[51] ty #[.slice (some ⟨g, off, none⟩) (s.ds j) c]).run Try.prog ((w.drewN q).setCell ⟨b, 3, none⟩ (.int .i64 (j : Int))) = .ok (.tuple #[]) w2) ∧ w2.cell? ⟨b, 5, none⟩ = some (.slice A s.l.length c) ∧ w2.frozen? ⟨b, 5, none⟩ = false ∧
        ∀ B, (c = s.ds j ∧ B = some ⟨g, off, none⟩) ∨ B = some ⟨g, off + s.ds j, none⟩ → LgP (w2.setCell ⟨b, 5, none⟩ (.slice B (s.l.length - s.ds j) (c - s.ds j))) F b (s.ack j) ∧ Only F w (w2.setCell ⟨b, 5, none⟩ (.slice B (s.l.length - s.ds j) (c - s.ds j)))) := by
  have okA := h.2.ack j
  have eA : s.ack j = ⟨s.m, s.W, s.Q, j, s.n - s.ds j, s.l.drop (s.ds j)⟩ := by
    have h1 : s.hit (j : Int) = true := by rw [Lg.hit_nat hj]; exact decide_eq_true hd
    unfold Lg.ack
    rw [if_pos h1, Int.toNat_natCast]
  have eX : (s.ack j).nx = s.nx := by rw [eA]; exact Lg.ack_nx h.2 hj hd
  have hsf := fun q => (h.1.drewN q).setF j
  obtain ⟨⟨A, c, vs, h1, h2, h3, h4, h5, h6⟩, ok⟩ := h
  have hvl := h3.len
  have hlc := h2.1
  have hnl := ok.nl
  have fin : ∀ {v : World}, LgRaw v F b s.m s.W s.Q j s.nx (s.l.drop (s.ds j)) → LgP v F b (s.ack j) := fun hr => ⟨by rw [eX, eA]; exact hr, okA⟩
  refine ⟨A, c, (lgcell h1).2.2.2.2.2, by omega, h2.2.1, ?_⟩
  have on0 := fun q => only_set (w.drewN q) ⟨b, 3, none⟩ (.int .i64 (j : Int))
  have hb1 := fun q => heap_setCell_same (w.drewN q) b 3 _ _ (.int .i64 (j : Int)) h1
  have m1 := fun q => (h2.drewN q).only (on0 q) (fun k hk e => lgrow_apart h1 h2 (by rw [hk, e]))
  have p1 : ∀ q, Pcs ((w.drewN q).setCell ⟨b, 3, none⟩ (.int .i64 (j : Int))) F vs s.l := fun q => Pcs.only (on0 q) (lgpcs_apart h1) (fun _ h => h) (Pcs.only (w := w) (w' := w.drewN q) (G := fun _ => False) ⟨rfl, rfl, rfl, Nat.le_refl _, fun _ _ _ => rfl⟩ (fun _ _ _ h => h) (fun _ h => h) h3)
  have lt1 : ∀ q k, F k → k < ((w.drewN q).setCell ⟨b, 3, none⟩ (.int .i64 (j : Int))).heap.size := fun q k hk => Nat.lt_of_lt_of_le (h6 k hk) (on0 q).size
  have onF : ∀ q, Only F w ((w.drewN q).setCell ⟨b, 3, none⟩ (.int .i64 (j : Int))) := fun q => only_from_drewN ((on0 q).mono (fun k _ e => by rw [e]; exact h4))
  rcases h2.2.2 with ⟨rfl, h0⟩ | ⟨g, off, cur, rfl, hg, _⟩
  · have hl : s.l.length = 0 := by omega
    have hd0 : s.ds j = 0 := by omega
    have hln : s.l = [] := List.eq_nil_of_length_eq_zero hl
    refine .inl ⟨rfl, hl, h0, hd0, fun q => ?_⟩
    obtain ⟨z, raw, on⟩ := lgraw_setL (F := F) (l' := []) (vs' := []) (A' := none) (c' := 0) (hb1 q) h4 (lt1 q) (MidV.nil _ _) (fun k hk => by simp [blk] at hk) trivial
    refine ⟨fin ?_, (onF q).trans on (fun _ _ h => h)⟩
    rw [hln, List.drop_nil]
    exact raw
  · refine .inr ⟨g, off, rfl, fun q => ?_⟩
    obtain ⟨w2, r2, on2, mk⟩ := (m1 q).wiped (d := s.ds j) (by omega)
    have hgb : ¬ b = g := fun e => lgrow_apart h1 h2 (by rw [e]; rfl)
    have hb2 := (on2.block b (lt1 q b h4) hgb).trans (hb1 q)
    refine ⟨w2, r2, (lgcell hb2).2.2.2.2.2, frozen_of_row w2 b 5 _ _ hb2, fun B hB => ?_⟩
    have hP : Pcs w2 F vs s.l := Pcs.only on2 (fun k hk ht e => pcs_off_row (m1 q) k hk ht (by rw [e]; rfl)) (fun _ h => h) (p1 q)
    obtain ⟨z, raw, on⟩ := lgraw_setL (F := F) (l' := s.l.drop (s.ds j)) hb2 h4 (fun k hk => Nat.lt_of_lt_of_le (lt1 q k hk) on2.size) (mk B hB) (fun k hk => by
      rcases hB with ⟨_, rfl⟩ | rfl
      · exact h5 k hk
      · exact h5 k hk) (hP.drop _)
    rw [List.length_drop] at raw on
    exact ⟨fin raw, ((onF q).trans on2 (fun k _ e => by rw [e]; exact h5 g rfl)).trans on (fun _ _ h => h)⟩
set_option maxRecDepth 20000 in
set_option maxHeartbeats 400000 in
theorem lgAck_calls (h : LgP w F b s) (k : Int) (hk : I64 k) : Calls Try.prog 15 #[.pointer (some ⟨b, 0, none⟩), .int .i64 k] w (LgAcked F b s k w) := by
  have ok := h.2
  have SN := fun q : Nat => lgSent_calls (h.drewN q)
  have BF := lgBefore_calls h k hk
  cases hs : s.hit k
  · have FI := Lib.hid (show ∀ q, LgAcked F b s k w (.returned (.tuple #[.int .i64 0, .bool false])) (w.drewN q) from fun q => by
      have ex : s.ackN k = 0 := by unfold Lg.ackN; rw [hs]; rfl
      have ea : s.ack k = s := by unfold Lg.ack; rw [hs]; rfl
      unfold LgAcked
      rw [ex, hs, ea]
      exact ⟨rfl, h.drewN q, only_drewN (Only.refl _ _) q⟩)
    cases hn : s.isN k
    · rw [hn, if_neg (by simp)] at BF
      clear h ok SN hs hn hk
      go_enter Try.func15, Try.ntmps15
      go_wp2_with fail
      refine BF.mono ?_
      rintro e w' ⟨rfl, q, rfl⟩
      go_wp2
      go_ret2
      exact FI.out q
    · rw [hn, if_pos rfl] at BF
      have g1 : (s.n : Int) < (s.ds k.toNat : Int) := by unfold Lg.hit at hs; rw [hn] at hs; simp at hs; omega
      clear h ok hs hn hk
      generalize s.ds k.toNat = d at *
      generalize s.n = n at *
      go_enter Try.func15, Try.ntmps15
      go_wp2_with fail
      refine BF.mono ?_
      rintro e w' ⟨rfl, q, rfl⟩
      go_wp2_with fail
      refine (SN q).mono ?_
      rintro e w' ⟨rfl, q', rfl⟩
      have FK := Lib.hid (FI.out (q + q'))
      clear FI SN BF
      go_wp2
      go_ret2
      exact FK.out
  · obtain ⟨j, rfl, hj, hd⟩ := Lg.hit_true hs
    have hn : s.isN (j : Int) = true := by unfold Lg.isN; simp; omega
    rw [hn, if_pos rfl, Int.toNat_natCast] at BF
    have g1 : ¬ (s.n : Int) < (s.ds j : Int) := by omega
    have hnl := ok.nl
    obtain ⟨A, c, c5, hlc, hcm, hcase⟩ := lgAck_mem h hj hd
    have eN : s.ackN (j : Int) = s.ds j := by unfold Lg.ackN; rw [hs, Int.toNat_natCast]; rfl
    have AK := Lib.hid (show ∀ v, (LgP v F b (s.ack j) ∧ Only F w v) → LgAcked F b s j w (.returned (.tuple #[.int .i64 (s.ds j : Int), .bool true])) v from fun v hv => by
      unfold LgAcked
      rw [eN, hs]
      exact ⟨rfl, hv.1, hv.2⟩)
    obtain ⟨⟨A0, c0', vs, hb, _⟩, _⟩ := h
    obtain ⟨c0, c1, c2, c3, c4, c5'⟩ := lgcell hb
    have y3 := frozen_of_row w b 3 _ _ hb
    have y5 := frozen_of_row w b 5 _ _ hb
    have g3 : (0 : Int) ≤ (s.ds j : Int) := by omega
    have g4 : (s.ds j : Int) ≤ (c : Int) := by omega
    have g5 : (s.ds j : Int) ≤ (s.l.length : Int) := by omega
    clear hb c0 c1 c2 c4 c5' hd hs hn eN hk hj
    rcases hcase with ⟨rfl, hl0, rfl, hd0, FZ⟩ | ⟨g, off, rfl, FZ⟩
    · have FZ' := Lib.hid FZ
      rw [hd0] at BF AK g1
      rw [hl0] at c5
      clear FZ ok g3 g4 g5 hd0 hl0 hlc hcm hnl
      have hcl : ∀ (v : World) (ty : TypeId), (Builtin.clear_ #[51] ty #[.slice none 0 0]).run Try.prog v = .ok (.tuple #[]) v := fun v ty => by simp [Builtin.clear_, run_underlying Try.underlying51]
      generalize s.n = n at *
      generalize s.f = f at *
      go_enter Try.func15, Try.ntmps15
      go_wp2_with fail
      refine BF.mono ?_
      rintro e w' ⟨rfl, q, rfl⟩
      go_wp2_with fail
      refine (SN q).mono ?_
      rintro e w' ⟨rfl, q', rfl⟩
      have FK := Lib.hid (AK.out _ (FZ'.out (q + q')))
      clear FZ' SN BF AK
      go_wp2_with (at_builtin; refine wpList_clear_run _ rfl _ _ rfl _ rfl _ _ (hcl _ _) ?_)
      go_ret2
      exact FK.out
    · have FZ' := Lib.hid FZ
      clear FZ ok hlc hnl
      unfold maxLen at hcm
      have hc63 : c ≤ 9223372036854775807 := by omega
      clear hcm
      generalize s.n = n at *
      generalize s.f = f at *
      generalize s.ds j = d at *
      generalize s.l.length = m at *
      go_enter Try.func15, Try.ntmps15
      go_wp2_with fail
      refine BF.mono ?_
      rintro e w' ⟨rfl, q, rfl⟩
      go_wp2_with fail
      refine (SN q).mono ?_
      rintro e w' ⟨rfl, q', rfl⟩
      obtain ⟨w2, r2, k5, z5, FB⟩ := FZ'.out (q + q')
      have FK := Lib.hid (show ∀ B cc, (c = d ∧ B = some ⟨g, off, none⟩ ∧ cc = 0) ∨ (B = some ⟨g, off + d, none⟩ ∧ cc = c - d) → LgAcked F b s j w (.returned (.tuple #[.int .i64 (d : Int), .bool true])) (w2.setCell ⟨b, 5, none⟩ (.slice B (m - d) cc)) from fun B cc hB => by
        rcases hB with ⟨h1, h2, h3⟩ | ⟨h2, h3⟩
        · have := AK.out _ (FB B (.inl ⟨h1, h2⟩))
          rw [show c - d = cc by omega] at this
          exact this
        · rw [h3]
          exact AK.out _ (FB B (.inr h2)))
      clear FZ' SN BF AK FB
      go_wp2_with (at_builtin; refine wpList_clear_run _ rfl _ _ rfl _ rfl _ _ (r2 _) ?_)
      all_goals
        go_ret2
        exact FK.out _ _ (by first | exact .inl ⟨by assumption, rfl, rfl⟩ | exact .inr ⟨rfl, rfl⟩)
end
end Go.Proofs.Yteofffnfafhgfaa

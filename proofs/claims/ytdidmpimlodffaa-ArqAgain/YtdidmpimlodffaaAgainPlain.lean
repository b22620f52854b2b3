/- What is sent again, plainly: just what is out, in order, as it was. No condition. -/
import Derived.Test.YtdidmpimlodffaaG15
namespace Go.Proofs.Ytdidmpimlodffaa
set_option linter.unusedVariables false

theorem outsFrom_drop (t m e : Nat) : ∀ (a k : Nat) (l : List (List UInt8)), (outsFrom t m e k l).drop a = outsFrom t m e (k + a) (l.drop a)
  | 0, k, l => rfl
  | a + 1, k, [] => by simp [outsFrom]
  | a + 1, k, x :: l => by
    show (outsFrom t m e (k + 1) l).drop a = _
    rw [outsFrom_drop t m e a (k + 1) l, show k + 1 + a = k + (a + 1) by omega]
    rfl
/-- all that is out is sent again -/
theorem retr_outs {s : Aq} (ok : s.Ok) (hn : s.lg.n = s.lg.l.length) (hf : s.lg.f + s.lg.n ≤ s.lg.m) : ∀ j, j ≤ s.lg.n → s.retrL ((List.range j).map fun i => (s.lg.f + i) % s.lg.m) = { s with os := s.os ++ outsFrom s.tg s.m s.od.e s.lg.f (s.lg.l.take j), lf := if j = 0 then s.lf else s.t1 }
  | 0, _ => by
    show s = _
    rw [List.take_zero]
    show s = { s with os := s.os ++ [], lf := if 0 = 0 then s.lf else s.t1 }
    rw [List.append_nil, if_pos rfl]
  | j + 1, hj => by
    have IH := retr_outs ok hn hf j (by omega)
    have hlt : j < s.lg.m := by have := Lg.n_lt ok.lg; omega
    have hnum : (s.lg.f + j) % s.lg.m = s.lg.f + j := Nat.mod_eq_of_lt (by omega)
    have hds : s.lg.ds (s.lg.f + j) = j := (Lg.num_ds ok.lg hlt (by omega : s.lg.f + j < s.lg.m)).1 hnum
    have hbody : s.lg.body ((s.lg.f + j : Nat) : Int) = s.lg.l.getD j [] := by
      unfold Lg.body
      rw [Lg.has_nat (by omega : s.lg.f + j < s.lg.m), hds, if_pos (by simp; omega), Int.toNat_natCast, hds]
    have htake : s.lg.l.take (j + 1) = s.lg.l.take j ++ [s.lg.l.getD j []] := by
      rw [List.take_add_one, List.getD_eq_getElem?_getD, List.getElem?_eq_getElem (by omega : j < s.lg.l.length)]
      rfl
    have hlen : (s.lg.l.take j).length = j := by rw [List.length_take]; omega
    rw [List.range_succ, List.map_append, List.map_singleton, hnum]
    unfold Aq.retrL at IH ⊢
    rw [List.foldl_append, IH, htake, outsFrom_snoc, hlen, if_neg (Nat.succ_ne_zero j)]
    show Aq.retrStep _ (s.lg.f + j) = _
    unfold Aq.retrStep Aq.sendM Aq.put Aq.start
    simp only [hbody, List.append_assoc]
theorem again_os {s : Aq} (ok : s.Ok) (hst : s.st = 2) (hn : s.lg.n = s.lg.l.length) (hf : s.lg.f + s.lg.n ≤ s.lg.m) : s.again.os = s.os ++ outsFrom s.tg s.m s.od.e s.lg.f s.lg.l := by
  unfold Aq.again Aq.retr
  rw [if_pos hst]
  unfold Lg.out
  rw [retr_outs ok hn hf s.lg.n (Nat.le_refl _), hn, List.take_length]
/-- messages are acknowledged, nothing waits -/
theorem rr_input {s : Aq} (ok : s.Ok) (hst : s.st = 2) (htg : s.tg = 1) (hm : s.m = 128) (hf : s.lg.f = 0) (hn : s.lg.n = s.lg.l.length) {a : Nat} (ha : a ≤ s.lg.n) (hlt : a < 128) :
    ∃ S : Aq, s.input (Aq.hd 1 ++ enc 1 0 (a : Int) false 128) = S ∧ S.Ok ∧ S.st = 2 ∧ S.os = s.os ∧ S.tg = 1 ∧ S.m = 128 ∧ S.od = s.od ∧ S.lg.f = a ∧ S.lg.n = s.lg.n - a ∧ S.lg.l = s.lg.l.drop a ∧ S.lg.m = s.lg.m := by
  have hlm : s.lg.m = 128 := by rw [ok.lgm, hm]
  have hr : right 1 0 (a : Int) (s.m : Int) = true := Aq.right_RR ok.m2 (.inl rfl) (by omega)
  have h1 := Aq.input_enc (s := s) (t := 1) (by decide) (p := false) (x := []) hr
  rw [List.append_nil, hm] at h1
  have hds : s.lg.ds a = a := by
    unfold Lg.ds
    rw [hf, hlm, Nat.sub_zero, Nat.add_mod_right, Nat.mod_eq_of_lt hlt]
  have hh : s.lg.hit (a : Int) = true := by rw [Lg.hit_nat (by omega), hds]; simp [ha]
  have hack : s.lg.ack (a : Int) = ⟨s.lg.m, s.lg.W, s.lg.Q, a, s.lg.n - a, s.lg.l.drop a⟩ := by
    unfold Lg.ack
    rw [hh, if_pos rfl, Int.toNat_natCast, hds]
  have hex : s.proc 1 1 0 (a : Int) false [] = s.acks (a : Int) := by
    unfold Aq.proc
    rw [if_neg (by decide), if_neg (by decide), if_neg (by decide), if_neg (by decide), if_neg (by decide)]
    unfold Aq.numbd
    rw [if_neg (by rw [hst]; decide), if_pos ⟨htg.symm, hst⟩, if_neg (by simp)]
    unfold Aq.exch
    rw [if_neg (by decide), if_neg (by simp)]
    refine Aq.pump_none ?_
    have e : (s.acks (a : Int)).lg = s.lg.ack (a : Int) := by
      unfold Aq.acks
      split <;> rfl
    rw [e, hack]
    show s.lg.n - a = (s.lg.l.drop a).length
    rw [List.length_drop, hn]
  refine ⟨s.acks (a : Int), h1.trans hex, ok.acks _, ?_⟩
  have e : (s.acks (a : Int)).lg = s.lg.ack (a : Int) := by
    unfold Aq.acks
    split <;> rfl
  have e2 : (s.acks (a : Int)).st = s.st ∧ (s.acks (a : Int)).os = s.os ∧ (s.acks (a : Int)).tg = s.tg ∧ (s.acks (a : Int)).m = s.m ∧ (s.acks (a : Int)).od = s.od := by
    unfold Aq.acks
    split <;> exact ⟨rfl, rfl, rfl, rfl, rfl⟩
  obtain ⟨g1, g2, g3, g4, g5⟩ := e2
  rw [e, hack]
  exact ⟨g1.trans hst, g2, g3.trans htg, g4.trans hm, g5, rfl, rfl, rfl, rfl⟩
theorem enc_rr : ∀ a : Fin 17, enc 1 0 ((a.val : Nat) : Int) false 128 = [1, UInt8.ofNat (2 * a.val)] := by decide +kernel
/-- what is sent -/
def pws (k : Nat) : List (List UInt8) := (List.range k).map fun i => [UInt8.ofNat i, 7]
theorem pws_len (k : Nat) : (pws k).length = k := by simp [pws]
theorem pws_next (k : Nat) : pws (k + 1) = pws k ++ [[UInt8.ofNat k, 7]] := by unfold pws; rw [List.range_succ, List.map_append]; rfl
theorem agn_shape : (upS (shapeC 128 16 20)).lg.W = 16 ∧ (upS (shapeC 128 16 20)).lg.Q = 20 ∧ (upS (shapeC 128 16 20)).sz = 50 ∧ (upS (shapeC 128 16 20)).m = 128 ∧ (upS (shapeC 128 16 20)).tg = 1 ∧ (upS (shapeC 128 16 20)).od.e = 0 ∧ (upS (shapeC 128 16 20)).od.all = 0 ∧ (upS (shapeC 128 16 20)).ak = 0 ∧ (upS (shapeC 128 16 20)).lo = 0 ∧ (upS (shapeC 128 16 20)).is = [] ∧ (upS (shapeC 128 16 20)).lg.m = 128 := by decide +kernel
theorem again_all {s : Aq} (h : s.Rest) (hW : s.lg.W = 16) (hm : s.m = 128) (htg : s.tg = 1) (he : s.od.e = 0) (hlm : s.lg.m = 128) {n a : Nat} (hn : n ≤ 16) (ha : a ≤ n) (ok : (sentS s (pws n)).Ok) :
    ∃ S : Aq, (sentS s (pws n)).output.input [0, 1, 1, UInt8.ofNat (2 * a)] = S ∧ S.os = [] ∧ S.lg.n = n - a ∧ S.output.again.os = (sentS s (pws n)).os.drop a ∧ (sentS s (pws n)).os.length = n := by
  have hmin : min 16 (pws n).length = n := by rw [pws_len]; omega
  have hos : (sentS s (pws n)).os = outsFrom 1 128 0 0 (pws n) := by
    show outsFrom s.tg s.m s.od.e 0 ((pws n).take s.lg.W) = _
    rw [htg, hm, he, hW, List.take_of_length_le (by rw [pws_len]; exact hn)]
  obtain ⟨S, g1, g2, g3, g4, g5, g6, g7, g8, g9, g10, g11⟩ := rr_input (s := (sentS s (pws n)).output) ok.output h.st htg hm rfl (by show min s.lg.W (pws n).length = (pws n).length; rw [hW, pws_len]; omega) (a := a) (by show a ≤ min s.lg.W (pws n).length; rw [hW, hmin]; exact ha) (by omega)
  have e := enc_rr ⟨a, by omega⟩
  have e : enc 1 0 (a : Int) false 128 = [1, UInt8.ofNat (2 * a)] := e
  rw [e] at g1
  have hSn : S.lg.n = n - a := by
    rw [g9]
    show min s.lg.W (pws n).length - a = _
    rw [hW, hmin]
  have hSl : S.lg.l = (pws n).drop a := g10
  refine ⟨S, g1, g4, hSn, ?_, by rw [hos, outsFrom_len, pws_len]⟩
  have := again_os (s := S.output) g2.output g3 (by show S.lg.n = S.lg.l.length; rw [hSn, hSl, List.length_drop, pws_len]) (by show S.lg.f + S.lg.n ≤ S.lg.m; rw [g8, hSn, g11]; show a + (n - a) ≤ s.lg.m; omega)
  rw [this, hos, outsFrom_drop]
  show [] ++ outsFrom S.tg S.m S.od.e S.lg.f S.lg.l = _
  rw [List.nil_append, g5, g6, g7, g8, hSl, Nat.zero_add]
  show outsFrom 1 128 s.od.e a _ = _
  rw [he]
end Go.Proofs.Ytdidmpimlodffaa

/- Next and Body of a log of the program. Condition of Body: the number is one of 64 bits. -/
import Derived.Test.YteofffnfafhgfaaLogMem
namespace Go.Proofs.Yteofffnfafhgfaa
open Go.RowKit
set_option linter.unusedVariables false

theorem Pcs.at_ {w : World} {F : Nat → Prop} : ∀ {vs : List Value} {l : List (List UInt8)}, Pcs w F vs l → ∀ {i : Nat}, i < l.length → ∃ B d, vs[i]? = some (.slice B (l.getD i []).length d) ∧ Mid w B d (l.getD i []) ∧ ∀ k, blk B = some k → F k
  | [], [], _, i, hi => by simp at hi
  | _ :: _, _ :: _, h, 0, hi => by
    obtain ⟨B, d, h1, h2, h3⟩ := h.1
    exact ⟨B, d, by simp [h1], h2, h3⟩
  | _ :: _, _ :: _, h, i + 1, hi => by
    obtain ⟨B, d, h1, h2⟩ := Pcs.at_ h.2 (i := i) (by simpa using hi)
    exact ⟨B, d, by simpa using h1, h2⟩
  | [], _ :: _, h, _, _ => h.elim
  | _ :: _, [], h, _, _ => h.elim
/-- what Next returns, and what it leaves -/
def LgNexted (F : Nat → Prop) (b : Nat) (s : Lg) (w : World) (e : Ending) (w' : World) : Prop :=
  ∃ A c, e = .returned (.tuple #[.int .i64 (s.nextN : Int), .slice A s.nextX.length c, .bool (!s.stop)]) ∧ Own w' w.heap.size A c s.nextX ∧ LgP w' F b s.next ∧ Only F w w'
/-- what Body returns -/
def LgBody (s : Lg) (k : Int) (w : World) (e : Ending) (w' : World) : Prop :=
  ∃ A c, e = .returned (.tuple #[.slice A (s.body k).length c, .bool (s.has k)]) ∧ Own w' w.heap.size A c (s.body k) ∧ Below w.heap.size w w'
section
variable {w : World} {F : Nat → Prop} {b : Nat} {s : Lg}
/-- the i-th message in memory -/
theorem lg_at (h : LgP w F b s) {i : Nat} (hi : i < s.l.length) : ∃ g off c B d, w.cell? ⟨b, 5, none⟩ = some (.slice (some ⟨g, off, none⟩) s.l.length c) ∧ w.cell? ⟨g, off + i, none⟩ = some (.slice B (s.l.getD i []).length d) ∧ Mid w B d (s.l.getD i []) ∧ (∀ k, blk B = some k → F k ∧ k ≠ b) ∧ ¬ b = g := by
  obtain ⟨⟨A, c, vs, h1, h2, h3, h4, h5, h6⟩, ok⟩ := h
  obtain ⟨B, d, hv, hm, hF⟩ := h3.at_ hi
  obtain ⟨g, off, rfl, hc⟩ := h2.at_ hv
  exact ⟨g, off, c, B, d, (lgcell h1).2.2.2.2.2, hc, hm, fun k hk => ⟨hF k hk, lgpcs_apart h1 k (hF k hk) (hm.type k hk)⟩, fun e => lgrow_apart h1 h2 (by rw [e]; rfl)⟩
set_option maxRecDepth 20000 in
set_option maxHeartbeats 400000 in
theorem lgNext_calls' (h : LgP w F b s) : Calls Try.prog 11 #[.pointer (some ⟨b, 0, none⟩)] w (LgNexted F b s w) := by
  have ok := h.2
  have SN := lgSent_calls h
  have H0 := Lib.hid h
  obtain ⟨⟨A, c, vs, hb, _⟩, _⟩ := h
  obtain ⟨c0, c1, c2, c3, c4, c5⟩ := lgcell hb
  cases hs : s.stop
  · obtain ⟨e1, e2⟩ := Lg.stop_false hs
    have hnl : s.n < s.l.length := by have := ok.nl; omega
    have g1 : ((s.n : Int) == (s.l.length : Int)) = false := by simp; omega
    have g2 : ¬ (s.W : Int) ≤ (s.n : Int) := by omega
    have g3 : (0 : Int) ≤ (s.n : Int) := by omega
    have g4 : (s.n : Int) < (s.l.length : Int) := by omega
    obtain ⟨g, off, c', B, d, k5, kx, mx, kF, hgb⟩ := lg_at H0.out hnl
    have NX := fun v => lgNext_calls s.nx s.m v (Lg.nx_lt ok) (by have := ok.m8; omega) ok.m9
    rw [← Lg.next_nx hs] at NX
    have en : s.next = ⟨s.m, s.W, s.Q, s.f, s.n + 1, s.l⟩ := by unfold Lg.next; rw [if_neg (by simp [hs])]
    have okN := ok.next
    have hset := fun q => (H0.out.1.drewN q).setX s.next.nx
    have y4 := frozen_of_row w b 4 _ _ hb
    have hx := Lg.get_small ok s.n
    have hsz : ∀ q, ((w.drewN q).setCell ⟨b, 4, none⟩ (.int .i64 (s.next.nx : Int))).heap.size = w.heap.size := fun q => by simp [World.setCell]
    have CL := fun q => cloneOwn_calls B d (s.l.getD s.n []) ((w.drewN q).setCell ⟨b, 4, none⟩ (.int .i64 (s.next.nx : Int))) (((mx.drewN q).only (only_set (w.drewN q) ⟨b, 4, none⟩ (.int .i64 (s.next.nx : Int))) (fun k hk e => (kF k hk).2 e)).rd) hx
    have FI := Lib.hid (show ∀ q A1 c1 V, Own V ((w.drewN q).setCell ⟨b, 4, none⟩ (.int .i64 (s.next.nx : Int))).heap.size A1 c1 (s.l.getD s.n []) → Below ((w.drewN q).setCell ⟨b, 4, none⟩ (.int .i64 (s.next.nx : Int))).heap.size ((w.drewN q).setCell ⟨b, 4, none⟩ (.int .i64 (s.next.nx : Int))) V → LgNexted F b s w (.returned (.tuple #[.int .i64 (s.nx : Int), .slice A1 (s.l.getD s.n []).length c1, .bool true])) V from fun q A1 c1 V ow be => by
      have P1 : LgP ((w.drewN q).setCell ⟨b, 4, none⟩ (.int .i64 (s.next.nx : Int))) F b s.next := by
        refine ⟨?_, okN⟩
        have := (hset q).2.1
        rw [en] at this ⊢
        exact this
      have ex : s.nextX = s.l.getD s.n [] := by unfold Lg.nextX; rw [if_neg (by simp [hs])]
      have eN : s.nextN = s.nx := by unfold Lg.nextN; rw [if_neg (by simp [hs])]
      unfold LgNexted
      rw [ex, eN, hs]
      rw [hsz q] at ow
      exact ⟨A1, c1, rfl, ow, P1.only (G := fun _ => False) (Only.of_below _ be) (fun _ _ h => h), (only_from_drewN (hset q).2.2).trans (Only.of_below (fun _ => False) be) (fun _ _ h => h.elim)⟩)
    clear hb c2 c3 c5 H0 en okN hset kF mx e1 e2 ok
    generalize s.next.nx = x' at *
    generalize s.l.getD s.n [] = X at *
    generalize s.l.length = m at *
    generalize s.n = n at *
    generalize s.nx = x at *
    generalize s.m = M at *
    generalize s.W = W at *
    clear hsz
    go_enter Try.func11, Try.ntmps11
    go_wp2_with fail
    refine SN.mono ?_
    rintro e w' ⟨rfl, q, rfl⟩
    go_wp2_with fail
    refine (NX _).mono ?_
    rintro e w' ⟨rfl, rfl⟩
    have CC := CL q
    have FJ := Lib.hid (FI.out q)
    clear CL FI NX SN
    go_wp2_with fail
    refine CC.mono ?_
    rintro e V ⟨A1, c1, rfl, ow, be⟩
    have FK := Lib.hid (FJ.out A1 c1 V ow be)
    clear ow be FJ CC
    go_wp2
    go_ret3
    exact FK.out
  · have FI := Lib.hid (show ∀ q, LgNexted F b s w (.returned (.tuple #[.int .i64 0, .slice none 0 0, .bool false])) (w.drewN q) from fun q => by
      have ex : s.nextX = [] := by unfold Lg.nextX; rw [if_pos hs]
      have eN : s.nextN = 0 := by unfold Lg.nextN; rw [if_pos hs]
      have en : s.next = s := by unfold Lg.next; rw [if_pos hs]
      unfold LgNexted
      rw [ex, eN, hs, en]
      exact ⟨none, 0, rfl, Own.nil _ _, H0.out.drewN q, only_drewN (Only.refl _ _) q⟩)
    have hnl := ok.nl
    by_cases g0 : s.n = s.l.length
    · have g1 : ((s.n : Int) == (s.l.length : Int)) = true := by simp; omega
      clear hb c0 c1 c2 c3 c4 H0 ok hs
      generalize s.l.length = m at *
      generalize s.n = n at *
      clear g0
      go_enter Try.func11, Try.ntmps11
      go_wp2_with fail
      refine SN.mono ?_
      rintro e w' ⟨rfl, q, rfl⟩
      go_wp2
      go_ret3
      exact FI.out q
    · have g1 : ((s.n : Int) == (s.l.length : Int)) = false := by simp; omega
      have g2 : (s.W : Int) ≤ (s.n : Int) := by unfold Lg.stop at hs; simp at hs; omega
      clear hb c0 c2 c3 c4 H0 ok hs
      generalize s.l.length = m at *
      generalize s.n = n at *
      generalize s.W = W at *
      clear g0
      go_enter Try.func11, Try.ntmps11
      go_wp2_with fail
      refine SN.mono ?_
      rintro e w' ⟨rfl, q, rfl⟩
      go_wp2
      go_ret3
      exact FI.out q
set_option maxRecDepth 20000 in
set_option maxHeartbeats 400000 in
theorem lgBody_calls (h : LgP w F b s) (k : Int) (hk : I64 k) : Calls Try.prog 17 #[.pointer (some ⟨b, 0, none⟩), .int .i64 k] w (LgBody s k w) := by
  have ok := h.2
  have SN := fun q : Nat => lgSent_calls (h.drewN q)
  have BF := lgBefore_calls h k hk
  cases hs : s.has k
  · have FI := Lib.hid (show ∀ q, LgBody s k w (.returned (.tuple #[.slice none 0 0, .bool false])) (w.drewN q) from fun q => by
      have ex : s.body k = [] := by unfold Lg.body; rw [hs]; rfl
      unfold LgBody
      rw [ex, hs]
      exact ⟨none, 0, rfl, Own.nil _ _, ⟨rfl, rfl, rfl, Nat.le_refl _, fun _ _ => rfl⟩⟩)
    cases hn : s.isN k
    · rw [hn, if_neg (by simp)] at BF
      clear h ok SN hs hn hk
      go_enter Try.func17, Try.ntmps17
      go_wp2_with fail
      refine BF.mono ?_
      rintro e w' ⟨rfl, q, rfl⟩
      go_wp2
      go_ret2
      exact FI.out q
    · rw [hn, if_pos rfl] at BF
      have g1 : (s.n : Int) ≤ (s.ds k.toNat : Int) := by unfold Lg.has at hs; rw [hn] at hs; simp at hs; omega
      clear h ok hs hn hk
      generalize s.ds k.toNat = d at *
      generalize s.n = n at *
      go_enter Try.func17, Try.ntmps17
      go_wp2_with fail
      refine BF.mono ?_
      rintro e w' ⟨rfl, q, rfl⟩
      go_wp2_with fail
      refine (SN q).mono ?_
      rintro e w' ⟨rfl, q', rfl⟩
      have FK := Lib.hid (FI.out (q + q'))
      clear FI SN BF
      go_wp2
      go_ret2
      exact FK.out
  · have hn : s.isN k = true := by unfold Lg.has at hs; cases hn : s.isN k <;> rw [hn] at hs <;> simp at hs ⊢
    have hd : s.ds k.toNat < s.n := by unfold Lg.has at hs; rw [hn] at hs; simp at hs; exact hs
    rw [hn, if_pos rfl] at BF
    have hnl := ok.nl
    have g1 : ¬ (s.n : Int) ≤ (s.ds k.toNat : Int) := by omega
    have g3 : (0 : Int) ≤ (s.ds k.toNat : Int) := by omega
    have g4 : (s.ds k.toNat : Int) < (s.l.length : Int) := by omega
    obtain ⟨g, off, c', B, d, k5, kx, mx, kF, hgb⟩ := lg_at h (i := s.ds k.toNat) (by omega)
    have hx := Lg.get_small ok (s.ds k.toNat)
    have CL := fun q => cloneOwn_calls B d (s.l.getD (s.ds k.toNat) []) (w.drewN q) (mx.drewN q).rd hx
    have FI := Lib.hid (show ∀ q A1 c1 V, Own V (w.drewN q).heap.size A1 c1 (s.l.getD (s.ds k.toNat) []) → Below (w.drewN q).heap.size (w.drewN q) V → LgBody s k w (.returned (.tuple #[.slice A1 (s.l.getD (s.ds k.toNat) []).length c1, .bool true])) V from fun q A1 c1 V ow be => by
      have ex : s.body k = s.l.getD (s.ds k.toNat) [] := by unfold Lg.body; rw [hs]; rfl
      unfold LgBody
      rw [ex, hs]
      exact ⟨A1, c1, rfl, ow, ⟨be.os, be.tape, be.output, be.size, be.block⟩⟩)
    clear h kF mx ok hs hn hd hk hgb
    generalize s.l.getD (s.ds k.toNat) [] = X at *
    generalize s.ds k.toNat = j at *
    generalize s.l.length = m at *
    generalize s.n = n at *
    go_enter Try.func17, Try.ntmps17
    go_wp2_with fail
    refine BF.mono ?_
    rintro e w' ⟨rfl, q, rfl⟩
    go_wp2_with fail
    refine (SN q).mono ?_
    rintro e w' ⟨rfl, q', rfl⟩
    have CC := CL (q + q')
    have FJ := Lib.hid (FI.out (q + q'))
    clear CL FI SN BF
    go_wp2_with fail
    refine CC.mono ?_
    rintro e V ⟨A1, c1, rfl, ow, be⟩
    have FK := Lib.hid (FJ.out A1 c1 V ow be)
    clear ow be FJ CC
    go_wp2
    go_ret2
    exact FK.out
end
end Go.Proofs.Yteofffnfafhgfaa

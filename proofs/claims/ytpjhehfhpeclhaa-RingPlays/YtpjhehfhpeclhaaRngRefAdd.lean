/- Add of a ring of the reference. Condition: what is added reads as its octets. -/
import Derived.Test.YtpjhehfhpeclhaaRngRef
import Derived.Deep.RegionLaw
namespace Go.Proofs.Ytpjhehfhpeclhaa
open Go.RowKit
set_option linter.unusedVariables false

section
variable {w : World} {F : Nat → Prop} {b : Nat} {s : Rng}
/-- a whole piece comes: a new row of octets, its slice appended -/
theorem addR_mem (h : PX w F b s) (X : Option Addr) (e : Nat) (x : List UInt8) (hr : Rd w X x) (hx : x ≠ []) (hf : s.o.length + x.length ≤ s.R) :
    ∃ A c, w.cell? ⟨b, 1, none⟩ = some (.slice A s.l.length c) ∧
    ∃ A1 c1 V1, (∀ ty, (Builtin.append_ #[28, 28] ty #[.slice none 0 0, .slice X x.length e]).run Try.prog w = .ok (.slice A1 x.length c1) V1) ∧ V1.cell? ⟨b, 1, none⟩ = some (.slice A s.l.length c) ∧
      (V1.alloc (.cells #[.slice A1 x.length c1] 28)).cell? ⟨b, 1, none⟩ = some (.slice A s.l.length c) ∧
        ∃ A3 c3 V3, (∀ ty, (Builtin.append_ #[35, 35] ty #[.slice A s.l.length c, .slice (some ⟨V1.heap.size, 0, none⟩) 1 1]).run Try.prog (V1.alloc (.cells #[.slice A1 x.length c1] 28)) = .ok (.slice A3 (s.l.length + 1) c3) V3) ∧
          V3.cell? ⟨b, 1, none⟩ = some (.slice A s.l.length c) ∧ V3.frozen? ⟨b, 1, none⟩ = false ∧ TurnR F b (s.add x) w (V3.setCell ⟨b, 1, none⟩ (.slice A3 (s.l.length + 1) c3)) := by
  have okA := h.2.add x
  obtain ⟨hl1, hl2⟩ := h.lens
  rw [(Rng.add_yes hf hx).2] at okA ⊢
  have hRl := h.2.2.1
  obtain ⟨⟨A, c, vs, h1, h2, h3, h4, h5, h6⟩, ok⟩ := h
  obtain ⟨A1, c1, V1, r1, m1, b1, k1⟩ := app_nil (d := e) hr rfl (by omega)
  have o1 : Only (fun _ => False) w V1 := Only.of_below _ b1
  have hb1 := (b1.block b (lt_of_block h1)).trans h1
  have hv1 := h2.only o1 (fun _ _ h => h)
  have hvl := h3.len
  obtain ⟨A3, c3, V3, r3, m3, on3, kin3⟩ := hv1.app1 etRow (.slice A1 x.length c1) rfl (by omega)
  rw [hvl] at r3
  have hba : ((V1.alloc (.cells #[.slice A1 x.length c1] 28)).heap[b]? : Option Obj) = V1.heap[b]? := Below.heap_alloc _ _ _ (by have := lt_of_block hb1; omega)
  have hb3 := (on3.block b (lt_of_block hb1) (row_apart hb1 hv1)).trans hb1
  let F3 : Nat → Prop := more F w V3
  have hs1 := b1.size
  have hs3 := on3.size
  have hlt3 : ∀ k, F3 k → k < V3.heap.size := more_lt h6 (Nat.le_trans hs1 hs3)
  have p1 : Pcs V1 F vs s.l := Pcs.only o1 (fun _ _ _ h => h) (fun _ h => h) h3
  have p3 : Pcs V3 F3 vs s.l := Pcs.only on3 (pcs_row hv1) (fun _ h => .inl h) p1
  have q3 : Pc V3 F3 (.slice A1 x.length c1) x := ⟨A1, c1, rfl, m1.only on3 (fun k hk e => by
    obtain ⟨cur, t1⟩ := m1.type k hk
    obtain ⟨cur', t2⟩ := hv1.type k e
    exact types_apart (by decide) t1 t2), fun k hk => .inr ⟨k1 k hk, Nat.lt_of_lt_of_le (m1.blk_lt k hk) hs3⟩⟩
  obtain ⟨f3, raw4, on4⟩ := rawR_setL (F := F3) (l' := s.l ++ [x]) hb3 (.inl h4) hlt3 m3 (fun k hk => (kin3 k hk).elim (fun h => .inl (h5 k h)) (fun h => .inr ⟨Nat.le_trans hs1 h, m3.blk_lt k hk⟩)) (p3.app q3)
  rw [show (s.l ++ [x]).length = s.l.length + 1 by simp] at raw4 on4
  refine ⟨A, c, (qcell h1).2.1, A1, c1, V1, r1, (qcell hb1).2.1, (qcell (hba.trans hb1)).2.1, A3, c3, V3, r3, (qcell hb3).2.1, f3, ⟨⟨?_, okA⟩, ?_⟩⟩
  · have hs4 : (V3.setCell ⟨b, 1, none⟩ (.slice A3 (s.l.length + 1) c3)).heap.size = V3.heap.size := by simp [World.setCell]
    unfold more
    rw [hs4]
    exact raw4
  · have t1 : Only F w V1 := o1.mono (fun _ _ h => h.elim)
    have t3 : Only F w V3 := t1.trans on3 (fun k _ hk => h5 k hk)
    exact t3.trans (only_set V3 ⟨b, 1, none⟩ _) (fun k _ e => by rw [e]; exact h4)
set_option maxRecDepth 20000 in
set_option maxHeartbeats 1000000 in
theorem addR_calls (h : PX w F b s) (X : Option Addr) (e : Nat) (x : List UInt8) (hr : Rd w X x) (hd : x.length ≤ e) (hd' : e ≤ maxLen) (hx100 : x.length ≤ 1048576) :
    Calls Try.prog 11 #[.pointer (some ⟨b, 0, none⟩), .slice X x.length e] w fun r w' => r = .returned (.bool (s.fits x)) ∧ TurnR F b (s.add x) w w' := by
  have HR := Lib.hid (TurnR.refl h)
  have H0 := Lib.hid h
  have ok := h.2
  obtain ⟨hl1, hl2⟩ := h.lens
  have LN := fun q : Nat => lenR_calls (h.1.drewN q) hl1 hl2
  obtain ⟨⟨A, c, vs, hb, _⟩, _⟩ := h
  obtain ⟨c0, c1, c2, c3⟩ := qcell hb
  have hol := ok.1
  have hRl := ok.2.1
  have hDl := ok.2.2.1
  have eo : s.l.flatten.length = s.o.length := rfl
  rw [eo] at LN
  clear eo hl1 hl2
  have hw : wrap64 ((s.o.length : Int) + (x.length : Int)) = (s.o.length : Int) + (x.length : Int) := by unfold wrap64; omega
  by_cases hf : s.o.length + x.length ≤ s.R
  · have gf : ¬ (s.R : Int) < (s.o.length : Int) + (x.length : Int) := by omega
    by_cases hx : x = []
    · subst hx
      rw [(Rng.add_nil hf).1, (Rng.add_nil hf).2]
      have FI := Lib.hid (fun n => HR.out.drewN n)
      clear hb c1 c2 c3 H0 hf
      generalize s.o.length = m at *
      generalize s.R = R at *
      simp only [List.length_nil] at *
      go_enter Try.func11, Try.ntmps11
      go_wp2_with fail
      go_quiet (first | (go_at_call 17; exact Calls.quiet_of_same (LN _)))
      go_wp2
      go_ret
      exact ⟨rfl, FI.out _⟩
    · have hxp : 0 < (x.length : Int) := by have := List.length_pos_iff.2 hx; omega
      have HH := Lib.hid (fun q : Nat => addR_mem (w := w.drewN q) ⟨H0.out.1.drewN q, H0.out.2⟩ X e x hr hx hf)
      rw [(Rng.add_yes hf hx).1]
      clear hb c1 c2 c3 H0 HR hr hx hf
      generalize s.o.length = m at *
      generalize s.R = R at *
      generalize x.length = n at *
      generalize s.l.length = k at *
      go_enter Try.func11, Try.ntmps11
      go_wp2_with fail
      go_quiet (first | (go_at_call 17; exact Calls.quiet_of_same (LN _)))
      obtain ⟨A, c, k1, A1, c1, V1, r1, k2, k3, A3, c3, V3, r3, k4, f3, TT⟩ := HH.out (nq + 1)
      have FI := Lib.hid TT.from_drewN
      have d1 : (w.drewN nq).drew.cell? ⟨b, 1, none⟩ = some (.slice A k c) := k1
      have r1' : ∀ ty, (Builtin.append_ #[28, 28] ty #[.slice none 0 0, .slice X n e]).run Try.prog (w.drewN nq).drew = .ok (.slice A1 n c1) V1 := r1
      clear TT HH r1
      go_wp2_with fail
      go_region_law (first
        | ((with_reducible refine step_append_run _ ?_ (.const (.slice none 0 0)) (.tmp 32) _ _ ?_ _ _ ?_ ?_ _ _ (r1' _) ?_); rfl; rfl; (focus (first | (simp [Act.eval]; done) | (simp [Act.eval, Act.put]; done))); (focus (first | (simp [Act.eval]; done) | (simp [Act.eval, Act.put]; done))))
        | ((with_reducible refine step_append_run _ ?_ (.tmp 31) (.tmp 34) _ _ ?_ _ _ ?_ ?_ _ _ (r3 _) ?_); rfl; rfl; (focus (first | (simp [Act.eval]; done) | (simp [Act.eval, Act.put]; done))); (focus (first | (simp [Act.eval]; done) | (simp [Act.eval, Act.put]; done)))))
      all_goals
        go_wp2
        go_ret
        exact ⟨rfl, FI.out⟩
  · have gf : (s.R : Int) < (s.o.length : Int) + (x.length : Int) := by omega
    have okA := ok.add x
    rw [(Rng.add_no hf).2] at okA
    rw [(Rng.add_no hf).1, (Rng.add_no hf).2]
    have hD : min (max ((s.D : Int) + 1) 0) 4294967295 = ((min (s.D + 1) 4294967295 : Nat) : Int) := by omega
    have CT := fun v => cutR_calls ((s.D : Int) + 1) 0 4294967295 (by decide) v
    rw [hD] at CT
    have FI := Lib.hid (fun n => ((H0.out.1.drewN n).setD (min (s.D + 1) 4294967295)))
    have z4 := fun n => (FI.out n).1
    have FJ := Lib.hid (show ∀ n, TurnR F b ⟨s.R, s.l, s.beg, min (s.D + 1) 4294967295⟩ w ((w.drewN n).setCell ⟨b, 3, none⟩ (.int .i64 ((min (s.D + 1) 4294967295 : Nat) : Int))) from fun n => TurnR.from_drewN (n := n) (TurnR.of_same ⟨(FI.out n).2.1, okA⟩ (FI.out n).2.2 H0.out.lt))
    have hDz : (s.D : Int) ≤ 4294967295 := by omega
    clear hb c1 c2 H0 hf FI HR okA ok hD hDl
    generalize min (s.D + 1) 4294967295 = D' at *
    generalize s.o.length = m at *
    generalize hRR : s.R = R at *
    clear hRR
    generalize s.D = D at *
    generalize x.length = n at *
    go_enter Try.func11, Try.ntmps11
    go_wp2_with fail
    go_quiet (first | (go_at_call 17; exact Calls.quiet_of_same (LN _)))
    have y4 := z4 nq
    have FI := Lib.hid (FJ.out nq)
    clear FJ z4
    go_wp2_with fail
    refine (CT _).mono ?_
    rintro e9 w9 ⟨rfl, rfl⟩
    go_wp2
    go_ret
    exact ⟨rfl, FI.out⟩
end
end Go.Proofs.Ytpjhehfhpeclhaa

/- Add of a log of the program. Condition: what is added reads as its octets. -/
import Derived.Test.YteofffnfafhgfaaLogMem
import Derived.Deep.RegionLaw
namespace Go.Proofs.Yteofffnfafhgfaa
open Go.RowKit
set_option linter.unusedVariables false

section
variable {w : World} {F : Nat → Prop} {b : Nat} {s : Lg}
/-- a message comes: a new row of octets, its slice appended -/
theorem lgAdd_mem (h : LgP w F b s) (x : List UInt8) (hx : x.length ≤ 1048576) (hf : s.full = false) :
    ∃ A c, w.cell? ⟨b, 5, none⟩ = some (.slice A s.l.length c) ∧ ∀ V1 A1 c1, Below w.heap.size w V1 → Own V1 w.heap.size A1 c1 x →
      V1.cell? ⟨b, 5, none⟩ = some (.slice A s.l.length c) ∧ (V1.alloc (.cells #[.slice A1 x.length c1] 28)).cell? ⟨b, 5, none⟩ = some (.slice A s.l.length c) ∧
        ∃ A3 c3 V3, (∀ ty, (Builtin.append_ #[51, 51] ty #[.slice A s.l.length c, .slice (some ⟨V1.heap.size, 0, none⟩) 1 1]).run Try.prog (V1.alloc (.cells #[.slice A1 x.length c1] 28)) = .ok (.slice A3 (s.l.length + 1) c3) V3) ∧
          V3.cell? ⟨b, 5, none⟩ = some (.slice A s.l.length c) ∧ V3.frozen? ⟨b, 5, none⟩ = false ∧ LgTurn F b (s.add x) w (V3.setCell ⟨b, 5, none⟩ (.slice A3 (s.l.length + 1) c3)) := by
  have okA := h.2.add hx
  have hll := h.2.len
  have eA : s.add x = ⟨s.m, s.W, s.Q, s.f, s.n, s.l ++ [x]⟩ := by unfold Lg.add; rw [if_neg (by simp [hf])]
  rw [eA] at okA ⊢
  obtain ⟨⟨A, c, vs, h1, h2, h3, h4, h5, h6⟩, ok⟩ := h
  refine ⟨A, c, (lgcell h1).2.2.2.2.2, fun V1 A1 c1 b1 own => ?_⟩
  have m1 := Mid.of_own own
  have k1 := fun k hk => (own.blk_ge k hk).1
  have o1 : Only (fun _ => False) w V1 := Only.of_below _ b1
  have hb1 := (b1.block b (lt_of_block h1)).trans h1
  have hv1 := h2.only o1 (fun _ _ h => h)
  have hvl := h3.len
  obtain ⟨A3, c3, V3, r3, m3, on3, kin3⟩ := hv1.app1 etRow (.slice A1 x.length c1) rfl (by omega)
  rw [hvl] at r3
  have hba : ((V1.alloc (.cells #[.slice A1 x.length c1] 28)).heap[b]? : Option Obj) = V1.heap[b]? := Below.heap_alloc _ _ _ (by have := lt_of_block hb1; omega)
  have hb3 := (on3.block b (lt_of_block hb1) (lgrow_apart hb1 hv1)).trans hb1
  let F3 : Nat → Prop := more F w V3
  have hs1 := b1.size
  have hs3 := on3.size
  have hlt3 : ∀ k, F3 k → k < V3.heap.size := more_lt h6 (Nat.le_trans hs1 hs3)
  have p1 : Pcs V1 F vs s.l := Pcs.only o1 (fun _ _ _ h => h) (fun _ h => h) h3
  have p3 : Pcs V3 F3 vs s.l := Pcs.only on3 (pcs_off_row hv1) (fun _ h => .inl h) p1
  have q3 : Pc V3 F3 (.slice A1 x.length c1) x := ⟨A1, c1, rfl, m1.only on3 (fun k hk e => by
    obtain ⟨cur, t1⟩ := m1.type k hk
    obtain ⟨cur', t2⟩ := hv1.type k e
    exact types_apart (by decide) t1 t2), fun k hk => .inr ⟨k1 k hk, Nat.lt_of_lt_of_le (m1.blk_lt k hk) hs3⟩⟩
  obtain ⟨f3, raw4, on4⟩ := lgraw_setL (F := F3) (l' := s.l ++ [x]) hb3 (.inl h4) hlt3 m3 (fun k hk => (kin3 k hk).elim (fun h => .inl (h5 k h)) (fun h => .inr ⟨Nat.le_trans hs1 h, m3.blk_lt k hk⟩)) (p3.app q3)
  rw [show (s.l ++ [x]).length = s.l.length + 1 by simp] at raw4 on4
  refine ⟨(lgcell hb1).2.2.2.2.2, (lgcell (hba.trans hb1)).2.2.2.2.2, A3, c3, V3, r3, (lgcell hb3).2.2.2.2.2, f3, ⟨⟨?_, okA⟩, ?_⟩⟩
  · have hs4 : (V3.setCell ⟨b, 5, none⟩ (.slice A3 (s.l.length + 1) c3)).heap.size = V3.heap.size := by simp [World.setCell]
    unfold more
    rw [hs4]
    exact raw4
  · have t1 : Only F w V1 := o1.mono (fun _ _ h => h.elim)
    have t3 : Only F w V3 := t1.trans on3 (fun k _ hk => h5 k hk)
    exact t3.trans (only_set V3 ⟨b, 5, none⟩ _) (fun k _ e => by rw [e]; exact h4)
set_option maxRecDepth 20000 in
set_option maxHeartbeats 1000000 in
theorem lgAdd_calls (h : LgP w F b s) (X : Option Addr) (e : Nat) (x : List UInt8) (hr : Rd w X x) (hx : x.length ≤ 1048576) :
    Calls Try.prog 10 #[.pointer (some ⟨b, 0, none⟩), .slice X x.length e] w fun r w' => r = .returned (.int .i64 s.addE) ∧ LgTurn F b (s.add x) w w' := by
  have ok := h.2
  have hll := ok.len
  have hnl := ok.nl
  have hQ := ok.q9
  have SN := fun q : Nat => lgSent_calls (h.drewN q)
  have hw : wrap64 ((s.l.length : Int) - (s.n : Int)) = (s.l.length : Int) - (s.n : Int) := by unfold wrap64; omega
  cases hf : s.full
  · have gf : ¬ (s.Q : Int) ≤ (s.l.length : Int) - (s.n : Int) := by unfold Lg.full at hf; simp at hf; omega
    have HH := Lib.hid (fun q : Nat => lgAdd_mem (h.drewN q) x hx hf)
    have CL := fun q : Nat => cloneOwn_calls X e x (w.drewN q) (hr.drewN q) hx
    rw [show s.addE = 0 by unfold Lg.addE; rw [hf]; rfl]
    obtain ⟨⟨A, c, vs, hb, _⟩, _⟩ := h
    obtain ⟨c0, c1, c2, c3, c4, c5⟩ := lgcell hb
    clear hb c0 c1 c3 c4 ok hf hr hx
    generalize s.l.length = m at *
    generalize s.n = n at *
    generalize s.Q = R at *
    generalize s.add x = s' at *
    go_enter Try.func10, Try.ntmps10
    go_wp2_with fail
    go_quiet (first | (go_at_call 30; exact Calls.quiet_of (SN _)))
    obtain ⟨A', c', k1, AM⟩ := HH.out (nq + 1)
    have AM' := Lib.hid AM
    have d1 : (w.drewN nq).drew.cell? ⟨b, 5, none⟩ = some (.slice A' m c') := k1
    have CC : Calls Try.prog 31 #[.slice X x.length e] (w.drewN nq).drew (GivesOwn x (w.drewN nq).drew) := CL (nq + 1)
    clear AM HH CL SN c5 c2
    go_wp2_with fail
    go_region_law (first
      | (go_simp; go_at_call 31; refine CC.mono ?_; rintro e9 V1 ⟨A1, c1, rfl, own, bel⟩; obtain ⟨j1, j2, A3, c3, V3, r3, j3, j4, TT⟩ := AM'.out V1 A1 c1 bel own; have FI := Lib.hid TT.from_drewN; clear TT)
      | ((with_reducible refine step_append_run _ ?_ (.tmp 22) (.tmp 25) _ _ ?_ _ _ ?_ ?_ _ _ (r3 _) ?_); rfl; rfl; (focus (first | (simp [Act.eval]; done) | (simp [Act.eval, Act.put]; done))); (focus (first | (simp [Act.eval]; done) | (simp [Act.eval, Act.put]; done)))))
    all_goals
      go_wp2
      go_ret
      exact ⟨rfl, FI.out⟩
  · have gf : (s.Q : Int) ≤ (s.l.length : Int) - (s.n : Int) := by unfold Lg.full at hf; simp at hf; omega
    have FI := Lib.hid (fun n => (LgTurn.refl h).drewN n)
    rw [show s.addE = 6 by unfold Lg.addE; rw [hf]; rfl, show s.add x = s by unfold Lg.add; rw [if_pos hf]]
    obtain ⟨⟨A, c, vs, hb, _⟩, _⟩ := h
    obtain ⟨c0, c1, c2, c3, c4, c5⟩ := lgcell hb
    clear hb c0 c1 c3 c4 ok hf hr hx
    generalize s.l.length = m at *
    generalize s.n = n at *
    generalize s.Q = R at *
    go_enter Try.func10, Try.ntmps10
    go_wp2_with fail
    go_quiet (first | (go_at_call 30; exact Calls.quiet_of (SN _)))
    go_wp2
    go_ret
    exact ⟨rfl, FI.out _⟩
end
end Go.Proofs.Yteofffnfafhgfaa

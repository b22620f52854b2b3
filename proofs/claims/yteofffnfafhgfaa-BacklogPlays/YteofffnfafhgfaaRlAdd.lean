/- Add of a log of the reference. Condition: what is added reads as its octets. -/
import Derived.Test.YteofffnfafhgfaaRlMem
import Derived.Test.YteofffnfafhgfaaPipThree
import Derived.Test.YteofffnfafhgfaaStepApp
import Derived.Deep.RegionLaw
namespace Go.Proofs.Yteofffnfafhgfaa
open Go.RowKit
set_option linter.unusedVariables false

section
variable {w : World} {F : Nat → Prop} {b : Nat} {s : Lg}
/-- a message comes: a new row of octets, its slice appended -/
theorem rlAdd_mem (h : RlP w F b s) (X : Option Addr) (e : Nat) (x : List UInt8) (hr : Rd w X x) (hx : x.length ≤ 1048576) (hf : s.full = false) :
    ∃ B d, w.cell? ⟨b, 5, none⟩ = some (.slice B s.wait.length d) ∧
    ∃ A1 c1 V1, (∀ ty, (Builtin.append_ #[28, 28] ty #[.slice none 0 0, .slice X x.length e]).run Try.prog w = .ok (.slice A1 x.length c1) V1) ∧ V1.cell? ⟨b, 5, none⟩ = some (.slice B s.wait.length d) ∧
      (V1.alloc (.cells #[.slice A1 x.length c1] 28)).cell? ⟨b, 5, none⟩ = some (.slice B s.wait.length d) ∧
        ∃ A3 c3 V3, (∀ ty, (Builtin.append_ #[51, 51] ty #[.slice B s.wait.length d, .slice (some ⟨V1.heap.size, 0, none⟩) 1 1]).run Try.prog (V1.alloc (.cells #[.slice A1 x.length c1] 28)) = .ok (.slice A3 (s.wait.length + 1) c3) V3) ∧
          V3.cell? ⟨b, 5, none⟩ = some (.slice B s.wait.length d) ∧ V3.frozen? ⟨b, 5, none⟩ = false ∧ RlTurn F b (s.add x) w (V3.setCell ⟨b, 5, none⟩ (.slice A3 (s.wait.length + 1) c3)) := by
  have okA := h.2.add hx
  obtain ⟨eW, eO⟩ := Lg.add_wait h.2.nl hf x
  have eF : (s.add x).m = s.m ∧ (s.add x).W = s.W ∧ (s.add x).Q = s.Q ∧ (s.add x).nx = s.nx := by
    unfold Lg.add
    rw [hf]
    exact ⟨rfl, rfl, rfl, rfl⟩
  have hwl : s.wait.length ≤ 5096 := by have := h.2.len; have := Lg.wait_len s; omega
  obtain ⟨⟨A, c, cs, B, d, vs, h1, ⟨h2, h3⟩, ⟨h4, h5⟩, h6, h7, h8, h9⟩, ok⟩ := h
  obtain ⟨A1, c1, V1, r1, m1, b1, k1⟩ := app_nil (d := e) hr rfl (by omega)
  have o1 : Only (fun _ => False) w V1 := Only.of_below _ b1
  have hb1 := (b1.block b (lt_of_block h1)).trans h1
  have hv1 := h4.only o1 (fun _ _ h => h)
  have hvl := h5.len
  obtain ⟨A3, c3, V3, r3, m3, on3, kin3⟩ := hv1.app1 etRow (.slice A1 x.length c1) rfl (by omega)
  rw [hvl] at r3
  have hba : ((V1.alloc (.cells #[.slice A1 x.length c1] 28)).heap[b]? : Option Obj) = V1.heap[b]? := Below.heap_alloc _ _ _ (by have := lt_of_block hb1; omega)
  have hv1b : ∀ k, blk B = some k → F k := h8
  have hb3 := (on3.block b (lt_of_block hb1) (fun e => by
    obtain ⟨cur, t1⟩ := hv1.type b e
    exact types_apart (by decide) t1 hb1)).trans hb1
  let F3 : Nat → Prop := more F w V3
  have hs1 := b1.size
  have hs3 := on3.size
  have hlt3 : ∀ k, F3 k → k < V3.heap.size := more_lt h9 (Nat.le_trans hs1 hs3)
  have g2 := (h2.only o1 (fun _ _ h => h)).only on3 (fun k hk e => by
    obtain ⟨cur, t1⟩ := (h2.only o1 (fun _ _ h => h)).type k hk
    obtain ⟨cur', t2⟩ := hv1.type k e
    exact types_apart (by decide) t1 t2)
  have p1 : Pcs V1 F vs s.wait := Pcs.only o1 (fun _ _ _ h => h) (fun _ h => h) h5
  have p3 : Pcs V3 F3 vs s.wait := Pcs.only on3 (pcs_off_rows hv1) (fun _ h => .inl h) p1
  have n1 : Ms V1 F cs s.outM := Ms.only o1 (fun _ _ _ h => h) (fun _ h => h) h3
  have n3 : Ms V3 F3 cs s.outM := Ms.only on3 (pcs_off_rows hv1) (fun _ h => .inl h) n1
  have q3 : Pc V3 F3 (.slice A1 x.length c1) x := ⟨A1, c1, rfl, m1.only on3 (fun k hk e => by
    obtain ⟨cur, t1⟩ := m1.type k hk
    obtain ⟨cur', t2⟩ := hv1.type k e
    exact types_apart (by decide) t1 t2), fun k hk => .inr ⟨k1 k hk, Nat.lt_of_lt_of_le (m1.blk_lt k hk) hs3⟩⟩
  obtain ⟨f3, raw4, on4⟩ := rl_set (F := F3) (m := s.m) (W := s.W) (Q := s.Q) (x := s.nx) (o := s.outM) (A := A) (c := c) (t := s.wait ++ [x]) (B := A3) (d := c3) hb3 5 (.slice A3 (s.wait.length + 1) c3) (by simp [rlc]) g2 n3 m3 (p3.app q3) (.inl h6) (fun k hk => .inl (h7 k hk)) (fun k hk => (kin3 k hk).elim (fun h => .inl (h8 k h)) (fun h => .inr ⟨Nat.le_trans hs1 h, m3.blk_lt k hk⟩)) hlt3
  refine ⟨B, d, (rlcell h1).2.2.2.2.2, A1, c1, V1, r1, (rlcell hb1).2.2.2.2.2, (rlcell (hba.trans hb1)).2.2.2.2.2, A3, c3, V3, r3, (rlcell hb3).2.2.2.2.2, f3, ⟨⟨?_, okA⟩, ?_⟩⟩
  · have hs4 : (V3.setCell ⟨b, 5, none⟩ (.slice A3 (s.wait.length + 1) c3)).heap.size = V3.heap.size := by simp [World.setCell]
    unfold more
    rw [hs4, eW, eO, eF.1, eF.2.1, eF.2.2.1, eF.2.2.2]
    exact raw4
  · have t1 : Only F w V1 := o1.mono (fun _ _ h => h.elim)
    have t3 : Only F w V3 := t1.trans on3 (fun k _ hk => h8 k hk)
    exact t3.trans (only_set V3 ⟨b, 5, none⟩ _) (fun k _ e => by rw [e]; exact h6)
set_option maxRecDepth 20000 in
set_option maxHeartbeats 1000000 in
theorem rlAdd_calls (h : RlP w F b s) (X : Option Addr) (e : Nat) (x : List UInt8) (hr : Rd w X x) (hx : x.length ≤ 1048576) :
    Calls Try.prog 13 #[.pointer (some ⟨b, 0, none⟩), .slice X x.length e] w fun r w' => r = .returned (.int .i64 s.addE) ∧ RlTurn F b (s.add x) w w' := by
  have ok := h.2
  have hwl := Lg.wait_len s
  have hll := ok.len
  cases hf : s.full
  · have gf : ¬ (s.Q : Int) ≤ ((s.wait.length : Nat) : Int) := by unfold Lg.full at hf; simp at hf; omega
    have HH := Lib.hid (fun q : Nat => rlAdd_mem (h.drewN q) X e x (hr.drewN q) hx hf)
    rw [show s.addE = 0 by unfold Lg.addE; rw [hf]; rfl]
    obtain ⟨⟨A, c, cs, B, d, vs, hb, _⟩, _⟩ := h
    obtain ⟨c0, c1, c2, c3, c4, c5⟩ := rlcell hb
    clear hb c0 c1 c3 c4 ok hf hr hx hwl
    generalize s.wait.length = m at *
    generalize s.Q = R at *
    generalize s.add x = s' at *
    generalize x.length = n at *
    go_enter Try.func13, Try.ntmps13
    go_wp2_with fail
    go_quiet (fail)
    obtain ⟨B', d', k1, A1, c1, V1, r1, k2, k3, A3, c3, V3, r3, k4, f3, TT⟩ := HH.out (nq + 1)
    have FI := Lib.hid TT.from_drewN
    have d1 : (w.drewN nq).drew.cell? ⟨b, 5, none⟩ = some (.slice B' m d') := k1
    have r1' : ∀ ty, (Builtin.append_ #[28, 28] ty #[.slice none 0 0, .slice X n e]).run Try.prog (w.drewN nq).drew = .ok (.slice A1 n c1) V1 := r1
    clear TT HH r1 c5 c2
    go_wp2_with fail
    go_region_law (first
      | ((with_reducible refine step_append_run _ ?_ (.const (.slice none 0 0)) (.tmp 20) _ _ ?_ _ _ ?_ ?_ _ _ (r1' _) ?_); rfl; rfl; (focus (first | (simp [Act.eval]; done) | (simp [Act.eval, Act.put]; done))); (focus (first | (simp [Act.eval]; done) | (simp [Act.eval, Act.put]; done))))
      | ((with_reducible refine step_append_run _ ?_ (.tmp 19) (.tmp 22) _ _ ?_ _ _ ?_ ?_ _ _ (r3 _) ?_); rfl; rfl; (focus (first | (simp [Act.eval]; done) | (simp [Act.eval, Act.put]; done))); (focus (first | (simp [Act.eval]; done) | (simp [Act.eval, Act.put]; done)))))
    all_goals
      go_wp2
      go_ret
      exact ⟨rfl, FI.out⟩
  · have gf : (s.Q : Int) ≤ ((s.wait.length : Nat) : Int) := by unfold Lg.full at hf; simp at hf; omega
    have FI := Lib.hid (fun n => (RlTurn.refl h).drewN n)
    rw [show s.addE = 6 by unfold Lg.addE; rw [hf]; rfl, show s.add x = s by unfold Lg.add; rw [if_pos hf]]
    obtain ⟨⟨A, c, cs, B, d, vs, hb, _⟩, _⟩ := h
    obtain ⟨c0, c1, c2, c3, c4, c5⟩ := rlcell hb
    clear hb c0 c1 c3 c4 ok hf hr hx hwl
    generalize s.wait.length = m at *
    generalize s.Q = R at *
    go_enter Try.func13, Try.ntmps13
    go_wp2_with fail
    go_quiet (fail)
    go_wp2
    go_ret
    exact ⟨rfl, FI.out _⟩
end
end Go.Proofs.Yteofffnfafhgfaa

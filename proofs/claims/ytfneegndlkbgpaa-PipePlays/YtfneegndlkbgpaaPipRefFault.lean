/- Erase, write and the flags of a pipe of the reference. No condition. -/
import Derived.Test.YtfneegndlkbgpaaPipRefTake
namespace Go.Proofs.Ytfneegndlkbgpaa
open Go.RowKit
set_option linter.unusedVariables false

section
variable {w : World} {F : Nat → Prop} {b : Nat} {s : Pip}
/-- a new row, stored -/
theorem one_new {t : TypeId} {A : Option Addr} {c : Nat} (hb : w.heap[b]? = some (.cells (pc s.R A s.l.length c s.cut s.st) t (0, 0))) (hm : Mid w A c s.l) (hne : blk A ≠ some b) (hF : F b) (hFA : ∀ k, blk A = some k → F k) (hlt : ∀ k, F k → k < w.heap.size) (ok : s.Ok) (k : Nat) (hk : k ≤ s.l.length) (d' : Nat)
    (B' : Option Addr) (hB : Rd w B' (s.l.drop k)) :
    ∃ A2 k2 V2, (∀ ty, (Builtin.append_ #[28, 28] ty #[.slice none 0 0, .slice B' (s.l.length - k) d']).run Try.prog w.drew = .ok (.slice A2 (s.l.length - k) k2) V2) ∧ V2.cell? ⟨b, 1, none⟩ = some (.slice A s.l.length c) ∧ V2.frozen? ⟨b, 1, none⟩ = false ∧
      Turn F t b ⟨s.R, s.l.drop k, s.cut, s.st⟩ w (V2.setCell ⟨b, 1, none⟩ (.slice A2 (s.l.length - k) k2)) := by
  have hsl : s.l.length ≤ 1048576 := by have := ok.1; have := ok.2; omega
  obtain ⟨A2, k2, V2, r2, m2, b2, kk2⟩ := app_nil (V := w.drew) (d := d') (show Rd w.drew B' (s.l.drop k) from hB) (by simp : (s.l.drop k).length = s.l.length - k) (by omega)
  obtain ⟨f1, f2, f3⟩ := held_turn (w := w.drew) hb hne hF hFA hlt (Only.of_below (fun k => blk A = some k) b2) m2 (fun k hk => .inr (kk2 k hk)) ⟨by have := ok.1; simp; omega, ok.2⟩
  rw [List.length_drop] at f3
  exact ⟨A2, k2, V2, r2, f1, f2, Turn.from_drewN (n := 1) f3⟩
set_option maxRecDepth 20000 in
set_option maxHeartbeats 2000000 in
theorem eraseR_calls (h : PP w F 45 b s) (n : Int) (y : UInt8) :
    Calls Try.prog 15 #[.pointer (some ⟨b, 0, none⟩), .int .i64 3, .int .i64 n, bv y] w fun e w' => e = .returned (.bool true) ∧ Turn F 45 b (s.erase n) w w' := by
  obtain ⟨A, c, hb, hm, hne, hF, hFA, hlt, ok⟩ := h
  obtain ⟨c0, c1, c2, c3⟩ := pcell hb
  have hk := lim_le n s.l.length
  have hcap := hm.1
  have hc63 : c ≤ 9223372036854775807 := by have := hm.2.1; unfold maxLen at this; omega
  have CT := fun v => cutR_calls n 0 (s.l.length : Int) (by omega) v
  rw [lim_int n s.l.length] at CT
  have hA := hm.2.2
  unfold Pip.erase bv
  have TN := Lib.hid (fun B' d' hB => one_new (s := s) hb hm hne hF hFA hlt ok (lim n s.l.length) hk d' B' hB)
  have RB := Lib.hid (fun B' hB => (hm.rest hk B' hB).rd)
  generalize s.l.drop (lim n s.l.length) = l2 at *
  generalize lim n s.l.length = k at *
  generalize s.l.length = m at *
  have hk0 : (0 : Int) ≤ (k : Int) := by omega
  have hk1 : (k : Int) ≤ (m : Int) := by omega
  clear hb hm hne hF hFA hlt ok c0 c2 c3
  rcases hA with ⟨rfl, rfl⟩ | ⟨g, off, cur, rfl, _⟩
  · have hk' : k = 0 := by omega
    have hm' : m = 0 := by omega
    subst hk' hm'
    obtain ⟨A2, k2, V2, r2, f1, f2, f5⟩ := TN.out none 0 (RB.out none (.inl ⟨rfl, rfl⟩))
    have FI := Lib.hid f5
    clear TN RB f5
    go_enter Try.func15, Try.ntmps15
    go_wp2_with fail
    go_region_law (first
      | ((with_reducible refine step_append_run _ ?_ (.const (.slice none 0 0)) (.tmp 42) _ _ ?_ _ _ ?_ ?_ _ _ (r2 _) ?_); rfl; rfl; (focus (first | (simp [Act.eval]; done) | (simp [Act.eval, Act.put]; done))); (focus (first | (simp [Act.eval]; done) | (simp [Act.eval, Act.put]; done))))
      | (go_simp; go_at_call 18; refine (CT _).mono ?_; rintro e w' ⟨rfl, rfl⟩))
    all_goals
      go_wp2
      go_ret
      exact ⟨rfl, FI.out⟩
  · by_cases hck : c = k
    · obtain ⟨A2, k2, V2, r2, f1, f2, f5⟩ := TN.out (some ⟨g, off, none⟩) 0 (RB.out _ (.inl ⟨hck, rfl⟩))
      rw [show m - k = 0 by omega] at r2 f5
      have FI := Lib.hid f5
      clear TN RB f5
      subst hck
      go_enter Try.func15, Try.ntmps15
      go_wp2_with fail
      go_region_law (first
        | ((with_reducible refine step_append_run _ ?_ (.const (.slice none 0 0)) (.tmp 42) _ _ ?_ _ _ ?_ ?_ _ _ (r2 _) ?_); rfl; rfl; (focus (first | (simp [Act.eval]; done) | (simp [Act.eval, Act.put]; done))); (focus (first | (simp [Act.eval]; done) | (simp [Act.eval, Act.put]; done))))
        | (go_simp; go_at_call 18; refine (CT _).mono ?_; rintro e w' ⟨rfl, rfl⟩))
      all_goals
        go_wp2
        go_ret
        exact ⟨rfl, FI.out⟩
    · obtain ⟨A2, k2, V2, r2, f1, f2, f5⟩ := TN.out (some ⟨g, off + k, none⟩) (c - k) (RB.out _ (.inr ⟨g, off, rfl, rfl⟩))
      have FI := Lib.hid f5
      clear TN RB f5
      go_enter Try.func15, Try.ntmps15
      go_wp2_with fail
      go_region_law (first
        | ((with_reducible refine step_append_run _ ?_ (.const (.slice none 0 0)) (.tmp 42) _ _ ?_ _ _ ?_ ?_ _ _ (r2 _) ?_); rfl; rfl; (focus (first | (simp [Act.eval]; done) | (simp [Act.eval, Act.put]; done))); (focus (first | (simp [Act.eval]; done) | (simp [Act.eval, Act.put]; done))))
        | (go_simp; go_at_call 18; refine (CT _).mono ?_; rintro e w' ⟨rfl, rfl⟩))
      all_goals
        go_wp2
        go_ret
        exact ⟨rfl, FI.out⟩
theorem writeR_calls (h : PP w F 45 b s) (n : Int) (y : UInt8) : Calls Try.prog 15 #[.pointer (some ⟨b, 0, none⟩), .int .i64 4, .int .i64 n, bv y] w fun e w' => e = .returned (.bool (s.canWrite n)) ∧ Turn F 45 b (s.write n y) w w' := by
  have HR := Lib.hid (Turn.refl h)
  obtain ⟨A, c, hb, hm, hne, hF, hFA, hlt, ok⟩ := h
  obtain ⟨c0, c1, c2, c3⟩ := pcell hb
  unfold Pip.write
  by_cases hw : 0 ≤ n ∧ n < s.l.length
  · obtain ⟨j, rfl⟩ : ∃ j : Nat, n = (j : Int) := ⟨n.toNat, by omega⟩
    have hj : j < s.l.length := by omega
    have e1 : s.canWrite (j : Int) = true := by unfold Pip.canWrite; exact decide_eq_true hw
    obtain ⟨g, off, rfl, k1, k2, ht⟩ := place_turn hb hm hne hF hFA hlt ok hj y
    have FI := Lib.hid ht
    rw [e1]
    have hjz : (j : Int) < (s.l.length : Int) := by omega
    simp only [cond_true, Int.toNat_natCast]
    generalize s.l.getD j 0 = x at k1
    clear hb hm hne hF hFA hlt ok c0 c2 c3 ht e1 HR
    unfold bv at *
    generalize s.l.length = m at *
    go_enter Try.func15, Try.ntmps15
    go_wp2
    go_ret
    exact ⟨rfl, FI.out⟩
  · have e1 : s.canWrite n = false := by unfold Pip.canWrite; exact decide_eq_false hw
    rw [e1]
    simp only [cond_false]
    clear hb hm hne hF hFA hlt ok c0 c2 c3 e1
    unfold bv
    generalize s.l.length = m at *
    by_cases h0 : n < 0
    · go_enter Try.func15, Try.ntmps15
      go_wp2
      go_ret
      exact ⟨rfl, HR.out⟩
    · have h1 : (m : Int) ≤ n := by omega
      go_enter Try.func15, Try.ntmps15
      go_wp2
      go_ret
      exact ⟨rfl, HR.out⟩
end
end Go.Proofs.Ytfneegndlkbgpaa

/- remove, write and insert of a pipe of the program. No condition. -/
import Derived.Test.YtfneegndlkbgpaaPipMem
import Derived.StillTailTactics
namespace Go.Proofs.Ytfneegndlkbgpaa
open Go.RowKit
set_option linter.unusedVariables false

section
variable {w : World} {F : Nat → Prop} {b : Nat} {s : Pip}
set_option maxHeartbeats 400000 in
theorem remove_calls (h : PP w F 42 b s) (n : Int) : Calls Try.prog 21 #[.pointer (some ⟨b, 0, none⟩), .int .i64 n] w fun e w' => e = .returned (.tuple #[]) ∧ PP w' F 42 b (s.erase n) ∧ Only F w w' := by
  obtain ⟨A, c, hb, hm, hne, hF, hFA, hlt, ok⟩ := h
  obtain ⟨c0, c1, c2, c3⟩ := pcell hb
  have z1 := frozen_of_row w b 1 _ _ hb
  have lc := fun (v : World) (hv : v.cell? ⟨b, 1, none⟩ = some (.slice A s.l.length c)) => limit_calls (w := v) (b := b) hv n
  have hk := lim_le n s.l.length
  have hcap := hm.1
  have hc63 : c ≤ 9223372036854775807 := by have := hm.2.1; unfold maxLen at this; omega
  have FIN := Lib.hid (show ∀ B, ((c = lim n s.l.length ∧ B = A) ∨ ∃ g off, A = some ⟨g, off, none⟩ ∧ B = some ⟨g, off + lim n s.l.length, none⟩) → PP ((w.drew).setCell ⟨b, 1, none⟩ (.slice B (s.l.length - lim n s.l.length) (c - lim n s.l.length))) F 42 b (s.erase n) ∧ Only F w ((w.drew).setCell ⟨b, 1, none⟩ (.slice B (s.l.length - lim n s.l.length) (c - lim n s.l.length))) from fun B hB => by
    have := held_same (w := w.drew) (A' := B) (c' := c - lim n s.l.length) (l' := s.l.drop (lim n s.l.length)) hb hne hF hFA hlt (hm.rest hk B hB) (fun k hkk => by
      rcases hB with ⟨_, rfl⟩ | ⟨g, off, rfl, rfl⟩
      · exact hkk
      · exact hkk) (ok.erase n)
    rw [List.length_drop] at this
    exact ⟨this.1, (Only.drew F w).trans this.2 (fun _ _ h => h)⟩)
  have hA := hm.2.2
  generalize lim n s.l.length = k at *
  generalize s.l.length = m at *
  clear hb hm hne hF hFA hlt ok c0 c2 c3
  have hk0 : (0 : Int) ≤ (k : Int) := by omega
  have hkm : (k : Int) ≤ (m : Int) := by omega
  rcases hA with ⟨rfl, rfl⟩ | ⟨g, off, cur, rfl, _⟩
  · have hk' : k = 0 := by omega
    have hm' : m = 0 := by omega
    subst hk' hm'
    have FI := Lib.hid (FIN.out none (.inl ⟨rfl, rfl⟩))
    clear FIN
    go_enter Try.func21, Try.ntmps21
    go_wp2
    refine wp_region_still_tail 11 (by kernel_rfl) (by kernel_rfl) ?_
    simp only [List.take_succ_cons, List.take_zero, List.drop_succ_cons, List.drop_zero]
    repeat still_step
    still_call (lc _ c1)
    repeat still_step
    refine wpStill_nil ?_
    go_wp2
    go_end0
    exact ⟨rfl, FI.out⟩
  · by_cases hck : c = k
    · have FI0 := FIN.out _ (.inl ⟨hck, rfl⟩)
      rw [show c - k = 0 by omega] at FI0
      have FI := Lib.hid FI0
      clear FIN FI0
      go_enter Try.func21, Try.ntmps21
      go_wp2
      refine wp_region_still_tail 11 (by kernel_rfl) (by kernel_rfl) ?_
      simp only [List.take_succ_cons, List.take_zero, List.drop_succ_cons, List.drop_zero]
      repeat still_step
      still_call (lc _ c1)
      repeat still_step
      refine wpStill_nil ?_
      go_wp2
      go_end0
      exact ⟨rfl, FI.out⟩
    · have FI := Lib.hid (FIN.out _ (.inr ⟨g, off, rfl, rfl⟩))
      clear FIN
      go_enter Try.func21, Try.ntmps21
      go_wp2
      refine wp_region_still_tail 11 (by kernel_rfl) (by kernel_rfl) ?_
      simp only [List.take_succ_cons, List.take_zero, List.drop_succ_cons, List.drop_zero]
      repeat still_step
      still_call (lc _ c1)
      repeat still_step
      refine wpStill_nil ?_
      go_wp2
      go_end0
      exact ⟨rfl, FI.out⟩

/-- a place is written -/
theorem place_turn {t : TypeId} {A : Option Addr} {c : Nat} (hb : w.heap[b]? = some (.cells (pc s.R A s.l.length c s.cut s.st) t (0, 0))) (hm : Mid w A c s.l) (hne : blk A ≠ some b) (hF : F b) (hFA : ∀ k, blk A = some k → F k) (hlt : ∀ k, F k → k < w.heap.size) (ok : s.Ok) {j : Nat} (hj : j < s.l.length) (y : UInt8) :
    ∃ g off, A = some ⟨g, off, none⟩ ∧ w.cell? ⟨g, off + j, none⟩ = some (bv (s.l.getD j 0)) ∧ w.frozen? ⟨g, off + j, none⟩ = false ∧ Turn F t b ⟨s.R, s.l.set j y, s.cut, s.st⟩ w (w.setCell ⟨g, off + j, none⟩ (bv y)) := by
  obtain ⟨g, off, rfl, h1, h2, h3⟩ := hm.place hj
  have hg : F g := hFA g rfl
  have hgb : g ≠ b := fun e => hne (by rw [e]; rfl)
  have o : Only (fun k => k = g) w (w.setCell ⟨g, off + j, none⟩ (bv y)) := (Only.refl (fun k => k = g) w).setCell (p := ⟨g, off + j, none⟩) (.inl rfl) _
  refine ⟨g, off, rfl, h1, h2, ⟨_, c, ?_, h3 y, hne, .inl hF, fun k hk => .inl (hFA k hk), more_lt hlt o.size, ⟨by simpa using ok.1, ok.2⟩⟩, o.mono (fun k _ e => by rw [e]; exact hg)⟩
  rw [o.block b (lt_of_block hb) (fun e => hgb e.symm), hb]
  simp
theorem write_calls (h : PP w F 42 b s) (n : Int) (y : UInt8) : Calls Try.prog 22 #[.pointer (some ⟨b, 0, none⟩), .int .i64 n, bv y] w fun e w' => e = .returned (.bool (s.canWrite n)) ∧ Turn F 42 b (s.write n y) w w' := by
  have HR := Lib.hid (Turn.refl h)
  obtain ⟨A, c, hb, hm, hne, hF, hFA, hlt, ok⟩ := h
  obtain ⟨c0, c1, c2, c3⟩ := pcell hb
  unfold Pip.write
  by_cases hw : 0 ≤ n ∧ n < s.l.length
  · obtain ⟨j, rfl⟩ : ∃ j : Nat, n = (j : Int) := ⟨n.toNat, by omega⟩
    have hj : j < s.l.length := by omega
    have e1 : s.canWrite (j : Int) = true := by unfold Pip.canWrite; exact decide_eq_true hw
    obtain ⟨g, off, rfl, k1, k2, ht⟩ := place_turn hb hm hne hF hFA hlt ok hj y
    have FI := Lib.hid ht
    rw [e1]
    have hjz : (j : Int) < (s.l.length : Int) := by omega
    simp only [cond_true, Int.toNat_natCast]
    generalize s.l.getD j 0 = x at k1
    clear hb hm hne hF hFA hlt ok c0 c2 c3 ht e1 HR
    unfold bv at *
    generalize s.l.length = m at *
    go_enter Try.func22, Try.ntmps22
    go_wp2
    go_ret
    exact ⟨rfl, FI.out⟩
  · have e1 : s.canWrite n = false := by unfold Pip.canWrite; exact decide_eq_false hw
    rw [e1]
    simp only [cond_false]
    clear hb hm hne hF hFA hlt ok c0 c2 c3 e1
    unfold bv
    generalize s.l.length = m at *
    by_cases h0 : n < 0
    · go_enter Try.func22, Try.ntmps22
      go_wp2
      go_ret
      exact ⟨rfl, HR.out⟩
    · have h1 : (m : Int) ≤ n := by omega
      go_enter Try.func22, Try.ntmps22
      go_wp2
      go_ret
      exact ⟨rfl, HR.out⟩
set_option maxHeartbeats 400000 in
theorem insert_calls (h : PP w F 42 b s) (n : Int) (y : UInt8) : Calls Try.prog 23 #[.pointer (some ⟨b, 0, none⟩), .int .i64 n, bv y] w fun e w' => e = .returned (.bool (s.canInsert n)) ∧ Turn F 42 b (s.insert n y) w w' := by
  have HR := Lib.hid (Turn.refl h)
  have okI := h.ok.insert n y
  obtain ⟨A, c, hb, hm, hne, hF, hFA, hlt, ok⟩ := h
  obtain ⟨c0, c1, c2, c3⟩ := pcell hb
  unfold Pip.insert at *
  by_cases hw : 0 ≤ n ∧ n ≤ s.l.length ∧ s.l.length < s.R
  · obtain ⟨j, rfl⟩ : ∃ j : Nat, n = (j : Int) := ⟨n.toNat, by omega⟩
    have hj : j ≤ s.l.length := by omega
    have e1 : s.canInsert (j : Int) = true := by unfold Pip.canInsert; exact decide_eq_true hw
    rw [e1] at okI ⊢
    simp only [cond_true, Int.toNat_natCast] at okI ⊢
    have IC := Lib.hid (fun q => ins_calls (hm.drewN q) y j hj (by have := ok.1; have := ok.2; omega))
    have FIN := Lib.hid (show ∀ (q : Nat) (w' : World) A' c', Mid w' A' c' (s.l.take j ++ y :: s.l.drop j) → Only (fun k => blk A = some k) (w.drewN q) w' → (∀ k, blk A' = some k → blk A = some k ∨ (w.drewN q).heap.size ≤ k) → w'.cell? ⟨b, 1, none⟩ = some (.slice A s.l.length c) ∧ w'.frozen? ⟨b, 1, none⟩ = false ∧ Turn F 42 b ⟨s.R, s.l.take j ++ y :: s.l.drop j, s.cut, s.st⟩ w (w'.setCell ⟨b, 1, none⟩ (.slice A' (s.l.take j ++ y :: s.l.drop j).length c')) from fun q w' A' c' h1 h2 h3 => by
      have := held_turn (w := w.drewN q) hb hne hF hFA hlt h2 h1 h3 okI
      exact ⟨this.1, this.2.1, this.2.2.from_drewN⟩)
    have g1 : ¬ (j : Int) < 0 := by omega
    have g2 : ¬ (s.l.length : Int) < (j : Int) := by omega
    have g3 : ¬ (s.R : Int) ≤ (s.l.length : Int) := by omega
    have d0 : decide ((j : Int) < 0) = false := decide_eq_false g1
    have d1 : decide ((s.l.length : Int) < (j : Int)) = false := decide_eq_false g2
    have d1' : decide (s.l.length < j) = false := decide_eq_false (by omega)
    have d2 : decide ((s.R : Int) ≤ (s.l.length : Int)) = false := decide_eq_false g3
    have d2' : decide (s.R ≤ s.l.length) = false := decide_eq_false (by omega)
    generalize s.l.take j ++ y :: s.l.drop j = l' at *
    generalize s.l.length = m at *
    generalize s.R = R at *
    clear hb hm hne hF hFA hlt ok c2 c3 e1 HR okI hw hj
    unfold bv
    go_enter Try.func23, Try.ntmps23
    go_wp2_with fail
    go_quiet (fail)
    have k1 : (w.drewN nq).cell? ⟨b, 1, none⟩ = some (.slice A m c) := c1
    go_wp2_with fail
    refine (IC.out nq).mono ?_
    rintro e w' ⟨A', c', rfl, m1, m2, m3⟩
    obtain ⟨f1, f2, f3⟩ := FIN.out nq w' A' c' m1 m2 m3
    have FI := Lib.hid f3
    clear FIN f3 m1 m2 m3 IC
    go_wp2
    go_ret
    exact ⟨rfl, FI.out⟩
  · have e1 : s.canInsert n = false := by unfold Pip.canInsert; exact decide_eq_false hw
    rw [e1]
    simp only [cond_false]
    clear hb hm hne hF hFA hlt ok c2 c3 e1 okI
    unfold bv
    generalize s.l.length = m at *
    generalize s.R = R at *
    by_cases h0 : n < 0
    · have d0 : decide (n < 0) = true := decide_eq_true h0
      go_enter Try.func23, Try.ntmps23
      go_wp2_with fail
      go_quiet (fail)
      go_wp2
      go_ret
      exact ⟨rfl, HR.out.drewN _⟩
    · have d0 : decide (n < 0) = false := decide_eq_false h0
      by_cases h1 : (m : Int) < n
      · have d1 : decide ((m : Int) < n) = true := decide_eq_true h1
        go_enter Try.func23, Try.ntmps23
        go_wp2_with fail
        go_quiet (fail)
        go_wp2
        go_ret
        exact ⟨rfl, HR.out.drewN _⟩
      · have h2 : (R : Int) ≤ (m : Int) := by omega
        have d1 : decide ((m : Int) < n) = false := decide_eq_false h1
        have d2 : decide ((R : Int) ≤ (m : Int)) = true := decide_eq_true h2
        have d2' : decide (R ≤ m) = true := decide_eq_true (by omega)
        go_enter Try.func23, Try.ntmps23
        go_wp2_with fail
        go_quiet (fail)
        go_wp2
        go_ret
        exact ⟨rfl, HR.out.drewN _⟩
end
end Go.Proofs.Ytfneegndlkbgpaa

/- Take of a pipe of the reference. No condition. -/
import Derived.Test.YtfneegndlkbgpaaPipRef
namespace Go.Proofs.Ytfneegndlkbgpaa
open Go.RowKit
set_option linter.unusedVariables false

section
variable {w : World} {F : Nat → Prop} {b : Nat} {s : Pip}
/-- two new rows, the second one stored -/
theorem two_new {t : TypeId} {A : Option Addr} {c : Nat} (hb : w.heap[b]? = some (.cells (pc s.R A s.l.length c s.cut s.st) t (0, 0))) (hm : Mid w A c s.l) (hne : blk A ≠ some b) (hF : F b) (hFA : ∀ k, blk A = some k → F k) (hlt : ∀ k, F k → k < w.heap.size) (ok : s.Ok) (k : Nat) (hk : k ≤ s.l.length) (d' : Nat)
    (B' : Option Addr) (hB : Rd w B' (s.l.drop k)) :
    ∃ A1 k1 V1, (∀ ty, (Builtin.append_ #[28, 28] ty #[.slice none 0 0, .slice A k c]).run Try.prog w = .ok (.slice A1 k k1) V1) ∧ V1.cell? ⟨b, 1, none⟩ = some (.slice A s.l.length c) ∧
      ∃ A2 k2 V2, (∀ ty, (Builtin.append_ #[28, 28] ty #[.slice none 0 0, .slice B' (s.l.length - k) d']).run Try.prog V1 = .ok (.slice A2 (s.l.length - k) k2) V2) ∧ V2.cell? ⟨b, 1, none⟩ = some (.slice A s.l.length c) ∧ V2.frozen? ⟨b, 1, none⟩ = false ∧
        Rd (V2.setCell ⟨b, 1, none⟩ (.slice A2 (s.l.length - k) k2)) A1 (s.l.take k) ∧ Turn F t b ⟨s.R, s.l.drop k, s.cut, s.st⟩ w (V2.setCell ⟨b, 1, none⟩ (.slice A2 (s.l.length - k) k2)) := by
  have hsl : s.l.length ≤ 1048576 := by have := ok.1; have := ok.2; omega
  have hbs := lt_of_block hb
  obtain ⟨A1, k1, V1, r1, m1, b1, kk1⟩ := app_nil (d := c) (hm.rd.front k) (by simp; omega : (s.l.take k).length = k) (by omega)
  obtain ⟨A2, k2, V2, r2, m2, b2, kk2⟩ := app_nil (V := V1) (d := d') (hB.below b1) (by simp : (s.l.drop k).length = s.l.length - k) (by omega)
  have b12 : Below w.heap.size w V2 := b1.trans (b2.mono b1.size)
  obtain ⟨f1, f2, f3⟩ := held_turn hb hne hF hFA hlt (Only.of_below (fun k => blk A = some k) b12) m2 (fun k hk => .inr (Nat.le_trans b1.size (kk2 k hk))) ⟨by have := ok.1; simp; omega, ok.2⟩
  rw [List.length_drop] at f3
  refine ⟨A1, k1, V1, r1, (pcell ((b1.block b hbs).trans hb)).2.1, A2, k2, V2, r2, f1, f2, ?_, f3⟩
  exact (m1.rd.below b2).only ((Only.refl (fun q => q = b) V2).setCell (p := ⟨b, 1, none⟩) (.inl rfl) _) (fun q hq e => by have := kk1 q hq; omega)
set_option maxHeartbeats 400000 in
theorem takeR_calls (h : PP w F 45 b s) (n : Int) :
    Calls Try.prog 13 #[.pointer (some ⟨b, 0, none⟩), .int .i64 n] w fun e w' => (∃ A c, e = .returned (.slice A (s.takeL n).length c) ∧ Rd w' A (s.takeL n)) ∧ Turn F 45 b (s.take n) w w' := by
  obtain ⟨A, c, hb, hm, hne, hF, hFA, hlt, ok⟩ := h
  obtain ⟨c0, c1, c2, c3⟩ := pcell hb
  have hk := lim_le n s.l.length
  have hcap := hm.1
  have hc63 : c ≤ 9223372036854775807 := by have := hm.2.1; unfold maxLen at this; omega
  have CT := cutR_calls n 0 (s.l.length : Int) (by omega) w
  rw [lim_int n s.l.length] at CT
  have hA := hm.2.2
  unfold Pip.takeL Pip.take
  cases hst : s.st
  · rw [hst] at c3
    simp only [cond_false]
    have TN := Lib.hid (fun B' d' hB => two_new (s := s) hb hm hne hF hFA hlt ok (lim n s.l.length) hk d' B' hB)
    have RB := Lib.hid (fun B' hB => (hm.rest hk B' hB).rd)
    rw [hst] at TN
    have ht := Lib.hid (show (s.l.take (lim n s.l.length)).length = lim n s.l.length by simp; omega)
    generalize s.l.take (lim n s.l.length) = l1 at *
    generalize s.l.drop (lim n s.l.length) = l2 at *
    generalize lim n s.l.length = k at *
    generalize s.l.length = m at *
    have hk0 : (0 : Int) ≤ (k : Int) := by omega
    have hk1 : (k : Int) ≤ (m : Int) := by omega
    have hk2 : (k : Int) ≤ (c : Int) := by omega
    clear hb hm hne hF hFA hlt ok c0 c2 hst
    rcases hA with ⟨rfl, rfl⟩ | ⟨g, off, cur, rfl, _⟩
    · have hk' : k = 0 := by omega
      have hm' : m = 0 := by omega
      subst hk' hm'
      obtain ⟨A1, k1, V1, r1, d1, A2, k2, V2, r2, f1, f2, f4, f5⟩ := TN.out none 0 (RB.out none (.inl ⟨rfl, rfl⟩))
      have FI := Lib.hid (And.intro f4 f5)
      clear TN RB f4 f5
      go_enter Try.func13, Try.ntmps13
      go_wp2_with fail
      refine CT.mono ?_
      rintro e w' ⟨rfl, rfl⟩
      go_wp2_with (first | (at_builtin; refine Lib.wpList_append_run (o := ⟨some 23, _, _, _, _, _⟩) _ rfl _ _ _ _ rfl _ _ rfl rfl _ _ (r1 _) ?_) | (at_builtin; refine Lib.wpList_append_run (o := ⟨some 31, _, _, _, _, _⟩) _ rfl _ _ _ _ rfl _ _ rfl rfl _ _ (r2 _) ?_))
      go_ret
      exact ⟨⟨A1, k1, congrArg (fun q => Ending.returned (.slice A1 q k1)) ht.out.symm, FI.out.1⟩, FI.out.2⟩
    · by_cases hck : c = k
      · obtain ⟨A1, k1, V1, r1, d1, A2, k2, V2, r2, f1, f2, f4, f5⟩ := TN.out (some ⟨g, off, none⟩) 0 (RB.out _ (.inl ⟨hck, rfl⟩))
        have hmk : m - k = 0 := by omega
        rw [hmk] at r2 f4 f5
        have FI := Lib.hid (And.intro f4 f5)
        clear TN RB f4 f5 hmk
        subst hck
        go_enter Try.func13, Try.ntmps13
        go_wp2_with fail
        refine CT.mono ?_
        rintro e w' ⟨rfl, rfl⟩
        go_wp2_with (first | (at_builtin; refine Lib.wpList_append_run (o := ⟨some 23, _, _, _, _, _⟩) _ rfl _ _ _ _ rfl _ _ rfl rfl _ _ (r1 _) ?_) | (at_builtin; refine Lib.wpList_append_run (o := ⟨some 31, _, _, _, _, _⟩) _ rfl _ _ _ _ rfl _ _ rfl rfl _ _ (r2 _) ?_))
        go_ret
        exact ⟨⟨A1, k1, congrArg (fun q => Ending.returned (.slice A1 q k1)) ht.out.symm, FI.out.1⟩, FI.out.2⟩
      · obtain ⟨A1, k1, V1, r1, d1, A2, k2, V2, r2, f1, f2, f4, f5⟩ := TN.out (some ⟨g, off + k, none⟩) (c - k) (RB.out _ (.inr ⟨g, off, rfl, rfl⟩))
        have FI := Lib.hid (And.intro f4 f5)
        clear TN RB f4 f5
        go_enter Try.func13, Try.ntmps13
        go_wp2_with fail
        refine CT.mono ?_
        rintro e w' ⟨rfl, rfl⟩
        go_wp2_with (first | (at_builtin; refine Lib.wpList_append_run (o := ⟨some 23, _, _, _, _, _⟩) _ rfl _ _ _ _ rfl _ _ rfl rfl _ _ (r1 _) ?_) | (at_builtin; refine Lib.wpList_append_run (o := ⟨some 31, _, _, _, _, _⟩) _ rfl _ _ _ _ rfl _ _ rfl rfl _ _ (r2 _) ?_))
        go_ret
        exact ⟨⟨A1, k1, congrArg (fun q => Ending.returned (.slice A1 q k1)) ht.out.symm, FI.out.1⟩, FI.out.2⟩
  · rw [hst] at c3
    simp only [cond_true]
    obtain ⟨A1, k1, V1, r1, d1, A2, k2, V2, r2, f1, f2, f4, f5⟩ := two_new (s := s) hb hm hne hF hFA hlt ok 0 (by omega) c A (show Rd w A (s.l.drop 0) from hm.rd)
    have FI := Lib.hid (And.intro f4 (show Turn F 45 b s w _ from f5))
    rw [Nat.sub_zero] at r2
    rw [Nat.sub_zero] at FI
    generalize lim n s.l.length = k at *
    generalize s.l.length = m at *
    clear hb hm hne hF hFA hlt ok c0 c2 hst f4 f5
    go_enter Try.func13, Try.ntmps13
    go_wp2_with fail
    refine CT.mono ?_
    rintro e w' ⟨rfl, rfl⟩
    go_wp2_with (first | (at_builtin; refine Lib.wpList_append_run (o := ⟨some 23, _, _, _, _, _⟩) _ rfl _ _ _ _ rfl _ _ rfl rfl _ _ (r1 _) ?_) | (at_builtin; refine Lib.wpList_append_run (o := ⟨some 31, _, _, _, _, _⟩) _ rfl _ _ _ _ rfl _ _ rfl rfl _ _ (r2 _) ?_))
    go_ret
    exact ⟨⟨A1, k1, rfl, FI.out.1⟩, FI.out.2⟩
end
end Go.Proofs.Ytfneegndlkbgpaa

/- Put of a pipe of the program. Condition: what is put reads as its octets. -/
import Derived.Test.YtfneegndlkbgpaaPipRem
import Derived.Test.YtfneegndlkbgpaaStepApp
namespace Go.Proofs.Ytfneegndlkbgpaa
open Go.RowKit
set_option linter.unusedVariables false

section
variable {w : World} {F : Nat → Prop} {b : Nat} {s : Pip}
theorem fit_le (s : Pip) (x : List UInt8) : s.fit x ≤ x.length ∧ (s.Ok → s.l.length + s.fit x ≤ 1048576) := by unfold Pip.fit Pip.Ok; omega
theorem fit_int (s : Pip) (x : List UInt8) (ok : s.Ok) : min (x.length : Int) ((s.R : Int) - (s.l.length : Int)) = (s.fit x : Int) := by unfold Pip.fit; unfold Pip.Ok at ok; omega
set_option maxHeartbeats 400000 in
theorem put_calls (h : PP w F 42 b s) (B : Option Addr) (d : Nat) (x : List UInt8) (hr : Rd w B x) (hd : x.length ≤ d) (hd' : d ≤ maxLen) :
    Calls Try.prog 10 #[.pointer (some ⟨b, 0, none⟩), .slice B x.length d] w fun e w' => e = .returned (.int .i64 (s.putN x : Int)) ∧ Turn F 42 b (s.put x) w w' := by
  have HR := Lib.hid (Turn.refl h)
  have okP := h.ok.put x
  obtain ⟨A, c, hb, hm, hne, hF, hFA, hlt, ok⟩ := h
  obtain ⟨c0, c1, c2, c3⟩ := pcell hb
  unfold maxLen at hd'
  unfold Pip.putN Pip.put at *
  cases hcut : s.cut
  · rw [hcut] at c2 okP
    simp only [cond_false] at okP ⊢
    obtain ⟨q1, q2⟩ := fit_le s x
    have q2 := q2 ok
    have q3 := fit_int s x ok
    have ht : (x.take (s.fit x)).length = s.fit x := by simp; omega
    obtain ⟨A', c', w', run, m1, m2, m3⟩ := (show Mid w.drew.drew A c s.l from hm).app B d (x.take (s.fit x)) (show Rd w.drew.drew B (x.take (s.fit x)) from hr.front _) (by rw [ht]; omega)
    rw [hcut] at hb
    obtain ⟨f1, f2, f3⟩ := held_turn (w := w.drew.drew) hb hne hF hFA hlt m2 m1 m3 okP
    have FI := Lib.hid (show Turn F 42 b ⟨s.R, s.l ++ x.take (s.fit x), false, s.st⟩ w _ from Turn.from_drewN (n := 2) f3)
    rw [ht] at run
    have hw : wrap64 ((s.R : Int) - (s.l.length : Int)) = (s.R : Int) - (s.l.length : Int) := by
      have := ok.1
      have := ok.2
      unfold wrap64
      omega
    have k1 : (0 : Int) ≤ (s.fit x : Int) := by omega
    have k2 : (s.fit x : Int) ≤ (d : Int) := by omega
    generalize s.l ++ x.take (s.fit x) = l' at *
    generalize s.fit x = k at *
    generalize s.l.length = m at *
    generalize s.R = R at *
    generalize x.length = n at *
    clear hb hm hne hF hFA hlt ok c3 okP hcut hr ht HR f3 m1 m2 m3
    go_enter Try.func10, Try.ntmps10
    go_wp2_with fail
    go_region
    go_wp2_with fail
    go_region_law (refine step_append_run _ (by rfl) _ _ _ _ (by rfl) _ _ (by rfl) (by rfl) _ _ (run _) ?_)
    go_wp2
    go_ret
    exact ⟨rfl, FI.out⟩
  · rw [hcut] at c2
    simp only [cond_true]
    clear hb hm hne hF hFA hlt ok c0 c1 c3 okP hcut
    generalize x.length = n at *
    go_enter Try.func10, Try.ntmps10
    go_wp2
    go_ret
    exact ⟨rfl, HR.out⟩
end
end Go.Proofs.Ytfneegndlkbgpaa

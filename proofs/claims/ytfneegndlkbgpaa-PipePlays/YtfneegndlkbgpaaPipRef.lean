/- Put and Take of a pipe of the reference. Condition: what is put reads as its octets. -/
import Derived.Test.YtfneegndlkbgpaaPipTake
import Derived.Test.YtfneegndlkbgpaaPipThree
namespace Go.Proofs.Ytfneegndlkbgpaa
open Go.RowKit
set_option linter.unusedVariables false

section
variable {w : World} {F : Nat → Prop} {b : Nat} {s : Pip}
set_option maxHeartbeats 400000 in
theorem putR_calls (h : PP w F 45 b s) (B : Option Addr) (d : Nat) (x : List UInt8) (hr : Rd w B x) (hd : x.length ≤ d) (hd' : d ≤ maxLen) :
    Calls Try.prog 11 #[.pointer (some ⟨b, 0, none⟩), .slice B x.length d] w fun e w' => e = .returned (.int .i64 (s.putN x : Int)) ∧ Turn F 45 b (s.put x) w w' := by
  have HR := Lib.hid (Turn.refl h)
  have okP := h.ok.put x
  obtain ⟨A, c, hb, hm, hne, hF, hFA, hlt, ok⟩ := h
  obtain ⟨c0, c1, c2, c3⟩ := pcell hb
  unfold maxLen at hd'
  unfold Pip.putN Pip.put at *
  cases hcut : s.cut
  · rw [hcut] at c2 okP
    simp only [cond_false] at okP ⊢
    obtain ⟨q1, q2⟩ := fit_le s x
    have q2 := q2 ok
    have q3 := fit_int s x ok
    have ht : (x.take (s.fit x)).length = s.fit x := by simp; omega
    have CT := fun v => cutR_calls (x.length : Int) 0 ((s.R : Int) - (s.l.length : Int)) (by have := ok.1; omega) v
    rw [show min (max (x.length : Int) 0) ((s.R : Int) - (s.l.length : Int)) = (s.fit x : Int) by rw [← q3]; omega] at CT
    have hsl : s.l.length ≤ 1048576 := by have := ok.1; have := ok.2; omega
    have AP := Lib.hid (show ∀ q : Nat, ∃ A1 k1 V1, (∀ ty, (Builtin.append_ #[28, 28] ty #[.slice none 0 0, .slice A s.l.length c]).run Try.prog (w.drewN q) = .ok (.slice A1 s.l.length k1) V1) ∧
        ∃ A2 k2 V2, (∀ ty, (Builtin.append_ #[28, 28] ty #[.slice A1 s.l.length k1, .slice B (s.fit x) d]).run Try.prog V1 = .ok (.slice A2 (s.l ++ x.take (s.fit x)).length k2) V2) ∧
          V2.cell? ⟨b, 1, none⟩ = some (.slice A s.l.length c) ∧ V2.frozen? ⟨b, 1, none⟩ = false ∧ Turn F 45 b ⟨s.R, s.l ++ x.take (s.fit x), false, s.st⟩ w (V2.setCell ⟨b, 1, none⟩ (.slice A2 (s.l ++ x.take (s.fit x)).length k2)) from fun q => by
      obtain ⟨A1, k1, V1, r1, m1, b1, kk1⟩ := app_nil (d := c) (show Rd (w.drewN q) A s.l from hm.rd) rfl hsl
      obtain ⟨A2, k2, V2, r2, m2, b2, kk2⟩ := app_own (V0 := w.drewN q) (d := d) m1 kk1 b1 ((show Rd (w.drewN q) B (x.take (s.fit x)) from hr.front _).below b1) rfl ht (by rw [List.length_append, ht] : s.l.length + s.fit x = (s.l ++ x.take (s.fit x)).length) (by rw [List.length_append, ht]; omega)
      rw [hcut] at hb
      obtain ⟨f1, f2, f3⟩ := held_turn (w := w.drewN q) hb hne hF hFA hlt (Only.of_below _ b2) m2 (fun k hk => .inr (kk2 k hk)) okP
      exact ⟨A1, k1, V1, r1, A2, k2, V2, r2, f1, f2, Turn.from_drewN (n := q) f3⟩)
    have hw : wrap64 ((s.R : Int) - (s.l.length : Int)) = (s.R : Int) - (s.l.length : Int) := by
      have := ok.1
      have := ok.2
      unfold wrap64
      omega
    have k1 : (0 : Int) ≤ (s.fit x : Int) := by omega
    have k2 : (s.fit x : Int) ≤ (d : Int) := by omega
    clear q3
    generalize s.l ++ x.take (s.fit x) = l' at *
    generalize s.fit x = k at *
    generalize s.l.length = m at *
    generalize s.R = R at *
    generalize x.length = n at *
    clear hb hm hne hF hFA hlt ok c3 okP hcut hr ht HR
    go_enter Try.func11, Try.ntmps11
    go_wp2_with fail
    go_quiet (first | (go_at_call 18; exact Calls.quiet_of_same (CT _)))
    obtain ⟨A1, kk1, V1, r1, A2, kk2, V2, r2, f1, f2, f3⟩ := AP.out (nq + 1)
    have FI := Lib.hid f3
    have d1 : (w.drewN nq).drew.cell? ⟨b, 1, none⟩ = some (.slice A m c) := c1
    have r1' : ∀ ty, (Builtin.append_ #[28, 28] ty #[.slice none 0 0, .slice A m c]).run Try.prog (w.drewN nq).drew = .ok (.slice A1 m kk1) V1 := r1
    clear AP f3 r1
    go_wp2_with fail
    go_region_law (first
      | ((with_reducible refine step_append_run _ ?_ (.const (.slice none 0 0)) (.tmp 29) _ _ ?_ _ _ ?_ ?_ _ _ (r1' _) ?_); rfl; rfl; (focus (first | (simp [Act.eval]; done) | (simp [Act.eval, Act.put]; done))); (focus (first | (simp [Act.eval]; done) | (simp [Act.eval, Act.put]; done))))
      | ((with_reducible refine step_append_run _ ?_ (.tmp 30) (.tmp 33) _ _ ?_ _ _ ?_ ?_ _ _ (r2 _) ?_); rfl; rfl; (focus (first | (simp [Act.eval]; done) | (simp [Act.eval, Act.put]; done))); (focus (first | (simp [Act.eval]; done) | (simp [Act.eval, Act.put]; done)))))
    go_wp2
    go_ret
    exact ⟨rfl, FI.out⟩
  · rw [hcut] at c2
    simp only [cond_true]
    clear hb hm hne hF hFA hlt ok c0 c1 c3 okP hcut
    generalize x.length = n at *
    go_enter Try.func11, Try.ntmps11
    go_wp2
    go_ret
    exact ⟨rfl, HR.out⟩
end
end Go.Proofs.Ytfneegndlkbgpaa

/- The law TwinsBehind, walked. No condition. -/
import Derived.Test.YtfhlogkdmjdpdaaTwnAlive
namespace Go.Proofs.Ytfhlogkdmjdpdaa
open Go.RowKit
set_option linter.unusedVariables false

theorem TwinsBehind_far (S H d : Int) (hl : S < 1 ∨ (1 ≤ S ∧ 4096 < S) ∨ (1 ≤ S ∧ S ≤ 4096 ∧ d < 1) ∨ (1 ≤ S ∧ S ≤ 4096 ∧ 1 ≤ d ∧ 1048576 < d)) (w : World) :
    Calls Try.prog 7 #[.int .i64 S, .int .u32 H, .int .i64 d] w fun e w' => e = .returned (.bool true) ∧ Below w.heap.size w w' := by
  rcases hl with h1 | ⟨h1, h2⟩ | ⟨h1, h2, h3⟩ | ⟨h1, h2, h3, h4⟩
  all_goals
    go_enter Try.func7, Try.ntmps7
    go_wp2_with fail
    refine (alive_calls w).mono ?_
    rintro e w' ⟨rfl, hb⟩
    go_wp2
    go_ret
    exact ⟨rfl, hb⟩
/-- what is far ahead leaves the highest number as it was -/
theorem Tb.got_behind {m : Tb} {n : Nat} (hk : m.kn = true) (h : 2147483648 ≤ m.ahead n) : (m.got n).hi = m.hi ∧ (m.S ≤ m.behind n → m.isNew n = false ∧ m.got n = m) ∧ (m.behind n < m.S → m.isNew n = !m.arr (m.behind n) ∧ m.got n = m.mark (m.behind n)) := by
  have h0 : ¬ m.kn = false := by rw [hk]; decide
  have h1 : ¬ m.ahead n = 0 := by omega
  have h2 : ¬ m.ahead n < 2147483648 := by omega
  unfold Tb.got Tb.isNew
  rw [if_neg h0, if_neg h1, if_neg h2, if_neg h0, if_neg h1, if_neg h2]
  refine ⟨?_, fun hb => ?_, fun hb => ?_⟩
  · split <;> rfl
  · rw [if_pos hb, if_pos hb]
    exact ⟨rfl, rfl⟩
  · rw [if_neg (by omega), if_neg (by omega)]
    exact ⟨rfl, rfl⟩
theorem behind_plain {S n d : Nat} (h1 : 1 ≤ S) (h2 : S ≤ 4096) (hn : n < 4294967296) (h3 : 1 ≤ d) (h4 : d ≤ 1048576) :
    (tnew (S : Int)).isNew n = true ∧ ((tnew (S : Int)).got n).isNew ((n + 4294967296 - d) % 4294967296) = decide (d < S) ∧
    (((tnew (S : Int)).got n).got ((n + 4294967296 - d) % 4294967296)).isNew ((n + 4294967296 - d) % 4294967296) = false ∧
    ((((tnew (S : Int)).got n).got ((n + 4294967296 - d) % 4294967296)).got ((n + 4294967296 - d) % 4294967296)).isNew ((n + d) % 4294967296) = true := by
  obtain ⟨m1, hm1⟩ : ∃ m1, (tnew (S : Int)).got n = m1 := ⟨_, rfl⟩
  obtain ⟨q, hq⟩ : ∃ q, (n + 4294967296 - d) % 4294967296 = q := ⟨_, rfl⟩
  have e1 : m1 = ⟨S, true, n, fun d => d == 0⟩ := by
    rw [← hm1]
    have : tsz (S : Int) = S := by unfold tsz; omega
    show (tnew (S : Int)).first n = _
    unfold Tb.first tnew
    rw [this]
  rw [hm1, hq]
  have hS : m1.S = S := by rw [e1]
  have hk : m1.kn = true := by rw [e1]
  have hh : m1.hi = n := by rw [e1]
  have ha : 2147483648 ≤ m1.ahead q := by unfold Tb.ahead; rw [hh]; omega
  have hb : m1.behind q = d := by unfold Tb.behind; rw [hh]; omega
  obtain ⟨g1, g2, g3⟩ := Tb.got_behind hk ha
  rw [hb, hS] at g2 g3
  have hk2 := Tb.got_kn m1 q
  have ha2 : 2147483648 ≤ (m1.got q).ahead q := by unfold Tb.ahead at *; rw [g1]; exact ha
  have hb2 : (m1.got q).behind q = d := by unfold Tb.behind at *; rw [g1]; exact hb
  have hS2 : (m1.got q).S = S := by rw [Tb.got_S, hS]
  obtain ⟨r1, r2, r3⟩ := Tb.got_behind hk2 ha2
  rw [hb2, hS2] at r2 r3
  refine ⟨rfl, ?_, ?_, ?_⟩
  · by_cases hd : d < S
    · rw [(g3 hd).1, e1]
      have : ¬ d = 0 := by omega
      simp [hd, this]
    · rw [(g2 (by omega)).1]
      simp [hd]
  · by_cases hd : d < S
    · rw [(r3 hd).1, (g3 hd).2]
      simp [Tb.mark]
    · exact (r2 (by omega)).1
  · have hk3 := Tb.got_kn (m1.got q) q
    have hh3 : ((m1.got q).got q).hi = n := by rw [r1, g1, hh]
    have ha3 : ((m1.got q).got q).ahead ((n + d) % 4294967296) = d := by unfold Tb.ahead; rw [hh3]; omega
    unfold Tb.isNew
    rw [if_neg (by rw [hk3]; decide), ha3, if_neg (by omega), if_pos (by omega)]
theorem TwinsBehind_near (S n d : Nat) (h1 : 1 ≤ S) (h2 : S ≤ 4096) (hn : n < 4294967296) (h3 : 1 ≤ d) (h4 : d ≤ 1048576) (w : World) :
    Calls Try.prog 7 #[.int .i64 (S : Int), .int .u32 (n : Int), .int .i64 (d : Int)] w fun e w' => e = .returned (.bool true) ∧ Below w.heap.size w w' := by
  obtain ⟨p1, p2, p3, p4⟩ := behind_plain h1 h2 hn h3 h4
  have e1 : ((n : Int) - (d : Int)) % 4294967296 = (((n + 4294967296 - d) % 4294967296 : Nat) : Int) := by omega
  have e2 : ((n : Int) + (d : Int)) % 4294967296 = (((n + d) % 4294967296 : Nat) : Int) := by omega
  have e3 : IntKind.u32.wrap ((n : Int) - (d : Int)) = (((n + 4294967296 - d) % 4294967296 : Nat) : Int) := by rw [IntKind.wrap_u32]; omega
  have e4 : IntKind.u32.wrap ((n : Int) + (d : Int)) = (((n + d) % 4294967296 : Nat) : Int) := by rw [IntKind.wrap_u32]; omega
  have hq : (n + 4294967296 - d) % 4294967296 < 4294967296 := by omega
  have hr : (n + d) % 4294967296 < 4294967296 := by omega
  generalize (n + 4294967296 - d) % 4294967296 = q at *
  generalize (n + d) % 4294967296 = r at *
  have i1 : (1 : Int) ≤ (S : Int) := by omega
  have i2 : (S : Int) ≤ 4096 := by omega
  have i3 : (1 : Int) ≤ (d : Int) := by omega
  have i4 : (d : Int) ≤ 1048576 := by omega
  have P := Lib.hid (And.intro p1 (And.intro p2 (And.intro p3 p4)))
  have B := Lib.hid (And.intro hn (And.intro hq hr))
  obtain ⟨x, hx⟩ : ∃ x, decide (d < S) = x := ⟨_, rfl⟩
  have hx' : decide ((d : Int) < (S : Int)) = x := by rw [← hx]; simp
  clear p1 p2 p3 p4 h1 h2 h3 h4 hn hq hr
  go_enter Try.func7, Try.ntmps7
  go_wp2_with fail
  refine (alive_calls w).mono ?_
  rintro e W ⟨rfl, hb⟩
  have HB := Lib.hid hb
  clear hb
  go_wp2_with fail
  refine (one_new (S : Int) W).mono ?_
  rintro e w1 ⟨b, rfl, o1⟩
  have c1 := o1.fresh B.out.1
  rw [P.out.1] at c1
  clear o1
  go_wp2_with fail
  refine c1.mono ?_
  rintro e w2 ⟨rfl, o2, _⟩
  clear c1
  have c2 := o2.fresh B.out.2.1
  rw [P.out.2.1, hx] at c2
  clear o2
  go_wp2_with fail
  refine c2.mono ?_
  rintro e w3 ⟨rfl, o3, _⟩
  clear c2
  have c3 := o3.fresh B.out.2.1
  rw [P.out.2.2.1] at c3
  clear o3
  go_wp2_with fail
  refine c3.mono ?_
  rintro e w4 ⟨rfl, o4, _⟩
  clear c3
  have c4 := o4.fresh B.out.2.2
  rw [P.out.2.2.2] at c4
  clear o4
  go_wp2_with fail
  refine c4.mono ?_
  rintro e w5 ⟨rfl, o5, _⟩
  clear c4
  have FIN := Lib.hid (show Below w.heap.size w w5 from (o5.later HB.out).bel)
  clear o5 HB P B
  go_wp2
  go_ret
  exact ⟨rfl, FIN.out⟩
theorem TwinsBehind_walk (S H d : Int) (w0 : (Lit.int .i64 S).wf = true) (w1 : (Lit.int .u32 H).wf = true) (w2 : (Lit.int .i64 d).wf = true) (w : World) :
    Calls Try.prog 7 #[.int .i64 S, .int .u32 H, .int .i64 d] w fun e w' => e = .returned (.bool true) ∧ Below w.heap.size w w' := by
  by_cases hl : S < 1 ∨ (1 ≤ S ∧ 4096 < S) ∨ (1 ≤ S ∧ S ≤ 4096 ∧ d < 1) ∨ (1 ≤ S ∧ S ≤ 4096 ∧ 1 ≤ d ∧ 1048576 < d)
  · exact TwinsBehind_far S H d hl w
  · obtain ⟨n, rfl, hn⟩ := u32_nat w1
    obtain ⟨s, rfl⟩ : ∃ k : Nat, S = (k : Int) := ⟨S.toNat, by omega⟩
    obtain ⟨e, rfl⟩ : ∃ k : Nat, d = (k : Int) := ⟨d.toNat, by omega⟩
    exact TwinsBehind_near s n e (by omega) (by omega) hn (by omega) (by omega) w
end Go.Proofs.Ytfhlogkdmjdpdaa

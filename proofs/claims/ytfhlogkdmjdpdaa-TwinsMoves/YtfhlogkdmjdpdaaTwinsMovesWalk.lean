/- The law TwinsMoves, walked. Condition: the slice reads as its numbers. -/
import Derived.Test.YtfhlogkdmjdpdaaTwnAlive
import Derived.Test.YtfhlogkdmjdpdaaU32Rows
import Derived.Deep.RegionHeld
namespace Go.Proofs.Ytfhlogkdmjdpdaa
open Go.RowKit
set_option linter.unusedVariables false

/-- the second table holds the same numbers, each greater by s -/
structure Mv (s : Nat) (a b : Tb) : Prop where
  S : b.S = a.S
  kn : b.kn = a.kn
  hi : a.kn = true → b.hi = (a.hi + s) % 4294967296
  arr : a.kn = true → b.arr = a.arr
theorem Mv.ahead {s : Nat} {a b : Tb} (h : Mv s a b) (ha : a.ok) (hb : b.ok) (hk : a.kn = true) {n : Nat} (hn : n < 4294967296) (hs : s < 4294967296) : b.ahead ((n + s) % 4294967296) = a.ahead n ∧ b.behind ((n + s) % 4294967296) = a.behind n := by
  have h1 := h.hi hk
  have h2 := ha.hi
  unfold Tb.ahead Tb.behind
  rw [h1]
  omega
theorem Mv.step {s : Nat} {a b : Tb} (h : Mv s a b) (ha : a.ok) (hb : b.ok) {n : Nat} (hn : n < 4294967296) (hs : s < 4294967296) : b.isNew ((n + s) % 4294967296) = a.isNew n ∧ Mv s (a.got n) (b.got ((n + s) % 4294967296)) := by
  unfold Tb.isNew Tb.got
  rw [h.kn]
  by_cases hk : a.kn = true
  · obtain ⟨e1, e2⟩ := h.ahead ha hb hk hn hs
    have e3 := h.arr hk
    have hf : ¬ a.kn = false := by rw [hk]; decide
    rw [if_neg hf, if_neg hf, if_neg hf, if_neg hf, e1, e2, h.S, e3]
    refine ⟨rfl, ?_⟩
    by_cases h0 : a.ahead n = 0
    · rw [if_pos h0, if_pos h0]
      exact h
    · rw [if_neg h0, if_neg h0]
      by_cases h1 : a.ahead n < 2147483648
      · rw [if_pos h1, if_pos h1]
        refine ⟨h.S, rfl, fun _ => rfl, fun _ => ?_⟩
        unfold Tb.up
        rw [e1, e3]
      · rw [if_neg h1, if_neg h1]
        by_cases h2 : a.S ≤ a.behind n
        · rw [if_pos h2, if_pos h2]
          exact h
        · rw [if_neg h2, if_neg h2]
          refine ⟨h.S, rfl, fun _ => h.hi hk, fun _ => ?_⟩
          unfold Tb.mark
          rw [e3]
  · have hf : a.kn = false := by simpa using hk
    rw [if_pos hf, if_pos hf, if_pos hf, if_pos hf]
    exact ⟨rfl, h.S, rfl, fun _ => rfl, fun _ => rfl⟩
/-- two tables side by side; what was there before stands -/
structure Two (w v : World) (p : Nat) (a b : Tb) : Prop where
  one : PT v p a
  two : PT v (p + 1) b
  bel : Below w.heap.size w v
  base : w.heap.size ≤ p
section
variable {w v : World} {p : Nat} {a b : Tb}
theorem Two.freshA (h : Two w v p a b) {n : Nat} (hn : n < 4294967296) : Calls Try.prog 11 #[.pointer (some ⟨p, 0, none⟩), .int .u32 (n : Int)] v fun e v' => e = .returned (.bool (a.isNew n)) ∧ Two w v' p (a.got n) b := by
  refine (fresh_calls h.one hn).mono ?_
  rintro e v' ⟨rfl, h1, on⟩
  exact ⟨rfl, h1, h.two.only on (by omega), h.bel.trans (on.below (fun k hk => by have := h.base; omega) h.bel.size), h.base⟩
theorem Two.freshB (h : Two w v p a b) {n : Nat} (hn : n < 4294967296) : Calls Try.prog 11 #[.pointer (some ⟨p + 1, 0, none⟩), .int .u32 (n : Int)] v fun e v' => e = .returned (.bool (b.isNew n)) ∧ Two w v' p a (b.got n) := by
  refine (fresh_calls h.two hn).mono ?_
  rintro e v' ⟨rfl, h1, on⟩
  exact ⟨rfl, h.one.only on (by omega), h1, h.bel.trans (on.below (fun k hk => by have := h.base; omega) h.bel.size), h.base⟩
theorem Two.drewN (h : Two w v p a b) (j : Nat) : Two w (v.drewN j) p a b := ⟨h.one, h.two, ⟨h.bel.os, h.bel.tape, h.bel.output, h.bel.size, h.bel.block⟩, h.base⟩
theorem Two.drew (h : Two w v p a b) : Two w v.drew p a b := h.drewN 1
end
theorem TwinsMoves_far (S s : Int) (A : Option Addr) (len c : Nat) (w : World) (hl : 200 < len) (hm : len ≤ 9223372036854775807) :
    Calls Try.prog 5 #[.int .i64 S, .slice A len c, .int .u32 s] w fun e w' => e = .returned (.bool true) ∧ Below w.heap.size w w' := by
  have g1 : 200 < (len : Int) := by omega
  go_enter Try.func5, Try.ntmps5
  go_wp2_with fail
  refine (alive_calls w).mono ?_
  rintro e w' ⟨rfl, hb⟩
  go_wp2
  go_ret
  exact ⟨rfl, hb⟩
/-- k of the numbers gone through -/
def MRel (w : World) (len s p : Nat) (i : Value) (v : World) : Prop := ∃ (k : Nat) (a b : Tb), k ≤ len ∧ i = .int .i64 k ∧ Mv s a b ∧ Two w v p a b
set_option maxHeartbeats 400000 in
theorem TwinsMoves_near (S : Int) (A : Option Addr) (c : Nat) (l : List Nat) (s : Nat) (w : World) (hr : RdU w A l) (hl : l.length ≤ 200) (hb : ∀ n ∈ l, n < 4294967296) (hs : s < 4294967296) :
    Calls Try.prog 5 #[.int .i64 S, .slice A l.length c, .int .u32 (s : Int)] w fun e w' => e = .returned (.bool true) ∧ Below w.heap.size w w' := by
  have HR := Lib.hid hr
  have HBD := Lib.hid hb
  have HS := Lib.hid hs
  obtain ⟨len, hlen⟩ : ∃ len, l.length = len := ⟨_, rfl⟩
  rw [hlen] at hl ⊢
  have HL := Lib.hid hlen
  clear hr hb hs hlen
  have hlz : (len : Int) ≤ 200 := by omega
  go_enter Try.func5, Try.ntmps5
  go_wp2_with fail
  refine (alive_calls w).mono ?_
  rintro e W ⟨rfl, hb⟩
  obtain ⟨p, hp⟩ : ∃ p, W.heap.size = p := ⟨_, rfl⟩
  have n1 := tnew_calls S W
  have n2 := fun V => tnew_calls S V
  generalize hm0 : tnew S = m0 at n1 n2
  have hk0 := Lib.hid (show m0.kn = false by rw [← hm0]; rfl)
  clear hm0
  rw [hp] at n1
  have HB := Lib.hid hb
  have HP := Lib.hid hp
  clear hb hp
  go_wp2_with fail
  refine n1.mono ?_
  rintro e W1 ⟨rfl, q1, b1, z1⟩
  clear n1
  have n2 := n2 W1
  rw [z1] at n2
  have Q1 := Lib.hid (And.intro q1 (And.intro b1 z1))
  clear q1 b1 z1
  go_wp2_with fail
  refine n2.mono ?_
  rintro e W2 ⟨rfl, q2, b2, z2⟩
  clear n2
  have ST := Lib.hid (show Two w W2 p m0 m0 from by
    obtain ⟨q1, b1, z1⟩ := Q1.out
    have hs := HB.out.size
    have hp := HP.out
    have o2 : Only (fun _ => False) W1 W2 := Only.of_below _ (b2.mono (by omega))
    refine ⟨q1.only o2 (fun h => h), q2, ?_, by omega⟩
    have c1 := HB.out.trans (b1.mono (by omega))
    exact c1.trans (b2.mono (by omega)))
  clear Q1 HB HP q2 b2 z2
  go_wp2
  go_loopw [10] (MRel w len s p) (fun i _ => len - (intOf i).toNat)
  case atStart => exact ⟨0, m0, m0, Nat.zero_le _, rfl, ⟨rfl, rfl, (fun h => by rw [hk0.out] at h; cases h), (fun _ => rfl)⟩, ST.out⟩
  case round =>
    clear ST
    obtain ⟨k, a, b, hk, rfl, hmv, st⟩ := hrel
    by_cases hlt : k < len
    · have hltz : (k : Int) < (len : Int) := by omega
      obtain ⟨g, off, rfl, hgw, hc⟩ := HR.out.at_ (k := k) (by rw [HL.out]; exact hlt)
      have HC := Lib.hid (show ∀ v, Below w.heap.size w v → v.cell? ⟨g, off + k, none⟩ = some (.int .u32 ((l.getD k 0 : Nat) : Int)) from fun v hv => (hv.cell (p := ⟨g, off + k, none⟩) hgw).trans hc)
      have hx : l.getD k 0 < 4294967296 := HBD.out _ (by
        have : k < l.length := by rw [HL.out]; exact hlt
        simp [this])
      clear hc hgw
      generalize l.getD k 0 = x at HC hx
      obtain ⟨e1, hmv'⟩ := hmv.step st.one.ok st.two.ok hx HS.out
      have hy : (x + s) % 4294967296 < 4294967296 := by omega
      have u1 : IntKind.u32.wrap ((x : Int) + (s : Int)) = (((x + s) % 4294967296 : Nat) : Int) := by rw [IntKind.wrap_u32]; omega
      have u2 : ((x : Int) + (s : Int)) % 4294967296 = (((x + s) % 4294967296 : Nat) : Int) := by omega
      generalize (x + s) % 4294967296 = y at *
      have cA := fun v (h : Two w v p a b) => h.freshA hx
      have cB := fun v (h : Two w v p (a.got x) b) => h.freshB hy
      rw [e1] at cB
      generalize a.isNew x = z at cA cB
      have HMV := Lib.hid hmv'
      clear hmv hmv' e1
      generalize a.got x = a' at *
      generalize b.got y = b' at *
      have st1 := st.drew
      go_wp2_with fail
      go_region_held (fun w' => w'.cell? ⟨g, off + k, none⟩ = some (.int .u32 (x : Int))) (exact HC.out _ (Two.bel (by with_reducible assumption))) (first | (go_at_call 11; first | (with_reducible refine (cA _ (by with_reducible assumption)).mono ?_; rintro e v' ⟨rfl, hT⟩) | (with_reducible refine (cB _ (by with_reducible assumption)).mono ?_; rintro e v' ⟨rfl, hT⟩)))
      have FIN := Lib.hid hT
      clear hT st st1 cA cB
      go_wp2
      go_roundw
      case measure => simp only [intOf]; omega
      case rel => exact ⟨k + 1, a', b', by omega, by go_num, HMV.out, FIN.out⟩
    · have hltz : ¬ (k : Int) < (len : Int) := by omega
      have FIN := Lib.hid (show Below w.heap.size w _ from st.bel)
      clear st
      go_wp2
      go_ret
      exact ⟨rfl, FIN.out⟩
theorem TwinsMoves_walk (S : Int) (A : Option Addr) (len cap : Nat) (zs : List Int) (s : Int) (w : World) (w0 : (Lit.int .i64 S).wf = true)
    (h : (A = none ∧ len = 0 ∧ cap = 0 ∧ zs = []) ∨ ∃ x, A = some x ∧ len ≤ cap ∧ cap ≤ maxLen ∧ zs.length = cap ∧ (∀ i, i < zs.length → w.cell? (x.add i) = some (.int .u32 (zs.getD i 0))) ∧ ∀ n ∈ zs, (Lit.int .u32 n).wf = true) (w2 : (Lit.int .u32 s).wf = true) :
    Calls Try.prog 5 #[.int .i64 S, .slice A len cap, .int .u32 s] w fun e w' => e = .returned (.bool true) ∧ Below w.heap.size w w' := by
  obtain ⟨l, rfl, k1, k2, hr, hb⟩ := RdU.of_row h
  obtain ⟨t, rfl, ht⟩ := u32_nat w2
  by_cases hl : l.length ≤ 200
  · exact TwinsMoves_near S A cap l t w hr hl hb ht
  · exact TwinsMoves_far S _ A l.length cap w (by omega) (by unfold maxLen at k2; omega)
end Go.Proofs.Ytfhlogkdmjdpdaa

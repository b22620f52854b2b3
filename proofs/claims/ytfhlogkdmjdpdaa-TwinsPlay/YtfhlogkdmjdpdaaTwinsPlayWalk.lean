/- The law TwinsPlay, walked. Condition: the slices read as their numbers and bools. -/
import Derived.Test.YtfhlogkdmjdpdaaTwnAlive
import Derived.Test.YtfhlogkdmjdpdaaTwnRefNear
import Derived.Test.YtfhlogkdmjdpdaaU32Rows
import Derived.Test.YtfhlogkdmjdpdaaBoolRows
import Derived.Deep.RegionHeld
namespace Go.Proofs.Ytfhlogkdmjdpdaa
open Go.RowKit
set_option linter.unusedVariables false

/-- two tables of the program at p and p + 1, one of the reference at p + 2; what was there before stands -/
structure Tri (w v : World) (p N : Nat) (m r : Tb) : Prop where
  one : PT v p m
  two : ∃ o, PT v (p + 1) o
  ref : RX v (p + 3) (p + 2) N r
  bel : Below w.heap.size w v
  base : w.heap.size ≤ p
  room : p + 3 ≤ v.heap.size
theorem Tri.keep {F : Nat → Prop} {v v' : World} {b : Nat} (h : ∃ o, PT v b o) (on : Only F v v') (hF : ¬ F b) : ∃ o, PT v' b o := by
  obtain ⟨o, ho⟩ := h
  exact ⟨o, ho.only on hF⟩
section
variable {w v : World} {p N : Nat} {m r : Tb} {n : Nat}
theorem Tri.freshO (h : Tri w v p N m r) (hn : n < 4294967296) : Calls Try.prog 11 #[.pointer (some ⟨p + 1, 0, none⟩), .int .u32 (n : Int)] v fun e v' => (∃ x, e = .returned (.bool x)) ∧ Tri w v' p N m r := by
  obtain ⟨o, ho⟩ := h.two
  refine (fresh_calls ho hn).mono ?_
  rintro e v' ⟨rfl, h1, on⟩
  exact ⟨⟨_, rfl⟩, h.one.only on (by omega), ⟨_, h1⟩, h.ref.only on (fun k hk => by omega) (by omega), h.bel.trans (on.below (fun k hk => by have := h.base; omega) h.bel.size), h.base, Nat.le_trans h.room on.size⟩
theorem Tri.freshT (h : Tri w v p N m r) (hn : n < 4294967296) : Calls Try.prog 11 #[.pointer (some ⟨p, 0, none⟩), .int .u32 (n : Int)] v fun e v' => e = .returned (.bool (m.isNew n)) ∧ Tri w v' p N (m.got n) r := by
  refine (fresh_calls h.one hn).mono ?_
  rintro e v' ⟨rfl, h1, on⟩
  exact ⟨rfl, h1, Tri.keep h.two on (by omega), h.ref.only on (fun k hk => by omega) (by omega), h.bel.trans (on.below (fun k hk => by have := h.base; omega) h.bel.size), h.base, Nat.le_trans h.room on.size⟩
theorem Tri.clearT (h : Tri w v p N m r) : Calls Try.prog 12 #[.pointer (some ⟨p, 0, none⟩)] v fun e v' => e = .returned (.tuple #[]) ∧ Tri w v' p N m.clear r := by
  refine (tclear_calls h.one).mono ?_
  rintro e v' ⟨rfl, h1, on⟩
  exact ⟨rfl, h1, Tri.keep h.two on (by omega), h.ref.only on (fun k hk => by omega) (by omega), h.bel.trans (on.below (fun k hk => by have := h.base; omega) h.bel.size), h.base, Nat.le_trans h.room on.size⟩
theorem Tri.clearR (h : Tri w v p N m r) : Calls Try.prog 13 #[.pointer (some ⟨p + 2, 0, none⟩)] v fun e v' => e = .returned (.tuple #[]) ∧ Tri w v' p N m r.clear := by
  refine (rclear_calls h.ref).mono ?_
  rintro e v' ⟨rfl, h1, on⟩
  exact ⟨rfl, h.one.only on (by omega), Tri.keep h.two on (by omega), h1, h.bel.trans (on.below (fun k hk => by have := h.base; omega) h.bel.size), h.base, Nat.le_trans h.room on.size⟩
theorem Tri.freshR (h : Tri w v p N m r) (hN : N ≤ 1000) (hn : n < 4294967296) : Calls Try.prog 14 #[.pointer (some ⟨p + 2, 0, none⟩), .int .u32 (n : Int)] v fun e v' => e = .returned (.bool (r.isNew n)) ∧ Tri w v' p (N + 1) m (r.got n) := by
  refine (rfresh_calls h.ref hN h.room hn).mono ?_
  rintro e v' ⟨rfl, h1, on⟩
  have hF : ∀ k, Fo (p + 3) (p + 2) k → p + 2 ≤ k := fun k hk => by rcases hk with hk | hk <;> omega
  exact ⟨rfl, h.one.only on (fun e => by have := hF _ e; omega), Tri.keep h.two on (fun e => by have := hF _ e; omega), h1, h.bel.trans (on.below (fun k hk => by have := hF k hk; have := h.base; omega) h.bel.size), h.base, Nat.le_trans h.room on.size⟩
theorem Tri.drew (h : Tri w v p N m r) : Tri w v.drew p N m r := ⟨h.one, h.two, h.ref.drewN 1, ⟨h.bel.os, h.bel.tape, h.bel.output, h.bel.size, h.bel.block⟩, h.base, h.room⟩
end
theorem TwinsPlay_far (S : Int) (A : Option Addr) (len c : Nat) (B : Option Addr) (lenB cB : Nat) (w : World) (hl : 200 < len ∨ (len ≤ 200 ∧ lenB < len)) (hm : len ≤ 9223372036854775807) (hmB : lenB ≤ 9223372036854775807) :
    Calls Try.prog 3 #[.int .i64 S, .slice A len c, .slice B lenB cB] w fun e w' => e = .returned (.bool true) ∧ Below w.heap.size w w' := by
  rcases hl with hl | ⟨hl, hl2⟩
  · have g1 : 200 < (len : Int) := by omega
    go_enter Try.func3, Try.ntmps3
    go_wp2_with fail
    refine (alive_calls w).mono ?_
    rintro e w' ⟨rfl, hb⟩
    go_wp2
    go_ret
    exact ⟨rfl, hb⟩
  · have g1 : (len : Int) ≤ 200 := by omega
    have g2 : (lenB : Int) < (len : Int) := by omega
    go_enter Try.func3, Try.ntmps3
    go_wp2_with fail
    refine (alive_calls w).mono ?_
    rintro e w' ⟨rfl, hb⟩
    go_wp2
    go_ret
    exact ⟨rfl, hb⟩
/-- k of the numbers gone through -/
def YRel (w : World) (len p : Nat) (i : Value) (v : World) : Prop := ∃ (k : Nat) (m : Tb), k ≤ len ∧ i = .int .i64 k ∧ Tri w v p k m m
set_option maxHeartbeats 400000 in
theorem TwinsPlay_near (S : Int) (A : Option Addr) (c : Nat) (l : List Nat) (B : Option Addr) (cB : Nat) (ys : List Bool) (w : World) (hr : RdU w A l) (hrB : RdB w B ys) (hl : l.length ≤ 200) (hl2 : l.length ≤ ys.length) (hm : ys.length ≤ 9223372036854775807) (hb : ∀ n ∈ l, n < 4294967296) :
    Calls Try.prog 3 #[.int .i64 S, .slice A l.length c, .slice B ys.length cB] w fun e w' => e = .returned (.bool true) ∧ Below w.heap.size w w' := by
  have HR := Lib.hid hr
  have HRB := Lib.hid hrB
  have HBD := Lib.hid hb
  obtain ⟨len, hlen⟩ : ∃ len, l.length = len := ⟨_, rfl⟩
  obtain ⟨lb, hlb⟩ : ∃ lb, ys.length = lb := ⟨_, rfl⟩
  rw [hlen] at hl hl2 ⊢
  rw [hlb] at hl2 hm ⊢
  have HL := Lib.hid hlen
  have HLB := Lib.hid hlb
  clear hr hb hlen hrB hlb
  have hlz : (len : Int) ≤ 200 := by omega
  have hlbz : (len : Int) ≤ (lb : Int) := by omega
  go_enter Try.func3, Try.ntmps3
  go_wp2_with fail
  refine (alive_calls w).mono ?_
  rintro e W ⟨rfl, hb⟩
  obtain ⟨p, hp⟩ : ∃ p, W.heap.size = p := ⟨_, rfl⟩
  have n1 := tnew_calls S W
  have n3 := fun V => rnew_calls S V
  generalize tnew S = m0 at n1 n3
  rw [hp] at n1
  have HB := Lib.hid hb
  have HP := Lib.hid hp
  clear hb hp
  go_wp2_with fail
  refine n1.mono ?_
  rintro e W1 ⟨rfl, q1, b1, z1⟩
  clear n1
  have n2 := tnew_calls 4 W1
  rw [z1] at n2
  have Q1 := Lib.hid (And.intro q1 (And.intro b1 z1))
  clear q1 b1 z1
  go_wp2_with fail
  refine n2.mono ?_
  rintro e W2 ⟨rfl, q2, b2, z2⟩
  clear n2
  have n3 := n3 W2
  rw [z2] at n3
  have Q2 := Lib.hid (And.intro q2 (And.intro b2 z2))
  clear q2 b2 z2
  go_wp2_with fail
  refine n3.mono ?_
  rintro e W3 ⟨rfl, q3, b3, z3⟩
  clear n3
  have ST := Lib.hid (show Tri w W3 p 0 m0 m0 from by
    obtain ⟨q1, b1, z1⟩ := Q1.out
    obtain ⟨q2, b2, z2⟩ := Q2.out
    have hs := HB.out.size
    have hp := HP.out
    have o2 : Only (fun _ => False) W1 W2 := Only.of_below _ (b2.mono (by omega))
    have o3 : Only (fun _ => False) W2 W3 := Only.of_below _ (b3.mono (by omega))
    refine ⟨(q1.only o2 (fun h => h)).only o3 (fun h => h), ⟨_, q2.only o3 (fun h => h)⟩, q3, ?_, by omega, by omega⟩
    have c1 := HB.out.trans (b1.mono (by omega))
    have c2 := c1.trans (b2.mono (by omega))
    exact c2.trans (b3.mono (by omega)))
  clear Q1 Q2 HB HP q3 b3 z3
  go_wp2
  go_loopw [11] (YRel w len p) (fun i _ => len - (intOf i).toNat)
  case atStart => exact ⟨0, m0, Nat.zero_le _, rfl, ST.out⟩
  case round =>
    clear ST
    obtain ⟨k, m, hk, rfl, st⟩ := hrel
    by_cases hlt : k < len
    · have hltz : (k : Int) < (len : Int) := by omega
      have hltb : (k : Int) < (lb : Int) := by omega
      have ek : (k : Int) % 4294967296 = (k : Int) := by omega
      obtain ⟨g, off, rfl, hgw, hc⟩ := HR.out.at_ (k := k) (by rw [HL.out]; exact hlt)
      obtain ⟨g2, off2, rfl, hgw2, hc2⟩ := HRB.out.at_ (k := k) (by rw [HLB.out]; omega)
      have HC := Lib.hid (show ∀ v, Below w.heap.size w v → v.cell? ⟨g, off + k, none⟩ = some (.int .u32 ((l.getD k 0 : Nat) : Int)) from fun v hv => (hv.cell (p := ⟨g, off + k, none⟩) hgw).trans hc)
      have HC2 := Lib.hid (show ∀ v, Below w.heap.size w v → v.cell? ⟨g2, off2 + k, none⟩ = some (.bool (ys.getD k false)) from fun v hv => (hv.cell (p := ⟨g2, off2 + k, none⟩) hgw2).trans hc2)
      have hx : l.getD k 0 < 4294967296 := HBD.out _ (by
        have : k < l.length := by rw [HL.out]; exact hlt
        simp [this])
      clear hc hgw hc2 hgw2
      generalize l.getD k 0 = x at HC hx
      generalize ys.getD k false = y at HC2
      have co := st.freshO (n := k) (by omega)
      clear st
      go_wp2_with fail
      refine co.mono ?_
      rintro e v1 ⟨⟨x1, rfl⟩, st⟩
      clear co
      have d2 := HC2.out v1 st.bel
      cases y with
      | true =>
        have ct := st.clearT
        clear st
        go_wp2_with fail
        refine ct.mono ?_
        rintro e v2 ⟨rfl, st⟩
        clear ct d2
        have cr := st.clearR
        clear st
        go_wp2_with fail
        refine cr.mono ?_
        rintro e v3 ⟨rfl, st⟩
        clear cr
        generalize m.clear = m1 at st
        have cA := fun v (h : Tri w v p k m1 m1) => h.freshT hx
        have cB := fun v (h : Tri w v p k (m1.got x) m1) => h.freshR (by omega) hx
        generalize m1.isNew x = z at cA cB
        generalize m1.got x = m2 at cA cB
        have st1 := st.drew
        go_wp2_with fail
        go_region_held (fun w' => w'.cell? ⟨g, off + k, none⟩ = some (.int .u32 (x : Int))) (exact HC.out _ (Tri.bel (by with_reducible assumption))) (first | (go_at_call 11; with_reducible refine (cA _ (by with_reducible assumption)).mono ?_; rintro e v' ⟨rfl, hT⟩) | (go_at_call 14; with_reducible refine (cB _ (by with_reducible assumption)).mono ?_; rintro e v' ⟨rfl, hT⟩))
        have FIN := Lib.hid hT
        clear hT st st1 cA cB
        go_wp2
        go_roundw
        case measure => simp [intOf]; omega
        case rel => exact ⟨k + 1, m2, by omega, by go_num, FIN.out⟩
      | false =>
        have cA := fun v (h : Tri w v p k m m) => h.freshT hx
        have cB := fun v (h : Tri w v p k (m.got x) m) => h.freshR (by omega) hx
        generalize m.isNew x = z at cA cB
        generalize m.got x = m2 at cA cB
        have st1 := st.drew
        go_wp2_with fail
        go_region_held (fun w' => w'.cell? ⟨g, off + k, none⟩ = some (.int .u32 (x : Int))) (exact HC.out _ (Tri.bel (by with_reducible assumption))) (first | (go_at_call 11; with_reducible refine (cA _ (by with_reducible assumption)).mono ?_; rintro e v' ⟨rfl, hT⟩) | (go_at_call 14; with_reducible refine (cB _ (by with_reducible assumption)).mono ?_; rintro e v' ⟨rfl, hT⟩))
        have FIN := Lib.hid hT
        clear hT st st1 cA cB d2
        go_wp2
        go_roundw
        case measure => simp [intOf]; omega
        case rel => exact ⟨k + 1, m2, by omega, by go_num, FIN.out⟩
    · have hltz : ¬ (k : Int) < (len : Int) := by omega
      have FIN := Lib.hid (show Below w.heap.size w _ from st.bel)
      clear st
      go_wp2
      go_ret
      exact ⟨rfl, FIN.out⟩
theorem TwinsPlay_walk (S : Int) (A : Option Addr) (len cap : Nat) (zs : List Int) (B : Option Addr) (lenB capB : Nat) (w : World) (w0 : (Lit.int .i64 S).wf = true)
    (h : (A = none ∧ len = 0 ∧ cap = 0 ∧ zs = []) ∨ ∃ x, A = some x ∧ len ≤ cap ∧ cap ≤ maxLen ∧ zs.length = cap ∧ (∀ i, i < zs.length → w.cell? (x.add i) = some (.int .u32 (zs.getD i 0))) ∧ ∀ n ∈ zs, (Lit.int .u32 n).wf = true) (hB : IsBools w B lenB capB) :
    Calls Try.prog 3 #[.int .i64 S, .slice A len cap, .slice B lenB capB] w fun e w' => e = .returned (.bool true) ∧ Below w.heap.size w w' := by
  obtain ⟨l, rfl, k1, k2, hr, hb⟩ := RdU.of_row h
  obtain ⟨ys, rfl, j1, j2, hrB⟩ := hB
  unfold maxLen at k2 j2
  by_cases hl : 200 < l.length ∨ (l.length ≤ 200 ∧ ys.length < l.length)
  · exact TwinsPlay_far S A l.length cap B ys.length capB w hl (by omega) (by omega)
  · exact TwinsPlay_near S A cap l B capB ys w hr hrB (by omega) (by omega) (by omega) hb
end Go.Proofs.Ytfhlogkdmjdpdaa

/- The law FramePlays, walked: the program's reader and the reference's, octet by octet, with a second reader of the program beside them. Condition: the slice reads as its octets. -/
import Derived.Test.YtnogdlekijpdhaaFraAlive
import Derived.Test.YtnogdlekijpdhaaFraRefRecv
namespace Go.Proofs.Ytnogdlekijpdhaa
open Go.RowKit
open Fcs Oct Fra
set_option linter.unusedVariables false

/-- a new reader of the reference -/
theorem RR.new (w : World) (M : Nat) (wide : Bool) : RR (w.alloc (.cells (rcells M wide false none 0 0 0 false false) 48)) (fun k => k = w.heap.size) w.heap.size M wide .out :=
  ⟨none, 0, [], 0, heap_alloc_new w _, Own.nil _ _, trivial, by simp [blk], rfl, (fun k hk => by simp [blk] at hk), fun k hk => by rw [hk]; simp⟩
def Dis (F G : Nat → Prop) : Prop := ∀ k, F k → ¬ G k
theorem PR.lt {w : World} {F : Nat → Prop} {b L : Nat} {wide : Bool} {s : St} (h : PR w F b L wide s) : ∀ k, F k → k < w.heap.size := by
  obtain ⟨_, _, _, _, _, _, _, h⟩ := h
  exact h
theorem RR.lt {w : World} {F : Nat → Prop} {b L : Nat} {wide : Bool} {s : St} (h : RR w F b L wide s) : ∀ k, F k → k < w.heap.size := by
  obtain ⟨_, _, _, _, _, _, _, _, _, _, h⟩ := h
  exact h
/-- behind k of the octets -/
def PlRel (W : World) (M : Nat) (wide : Bool) (l : List UInt8) (p1 p2 p3 : Nat) (i : Value) (wr : World) : Prop :=
  ∃ (k : Nat) (s t : St) (F1 F2 F3 : Nat → Prop), k ≤ l.length ∧ i = .int .i64 k ∧ PR wr F1 p1 (M + sumN wide) wide s ∧ PR wr F2 p2 9 true t ∧ RR wr F3 p3 M wide s ∧
    (∀ j, F1 j → W.heap.size ≤ j) ∧ (∀ j, F2 j → W.heap.size ≤ j) ∧ (∀ j, F3 j → W.heap.size ≤ j) ∧ Dis F1 F2 ∧ Dis F1 F3 ∧ Dis F2 F3 ∧ Below W.heap.size W wr ∧ s.acc.length ≤ k ∧ t.acc.length ≤ 9
theorem dis_symm {F G : Nat → Prop} (h : Dis F G) : Dis G F := fun k hg hf => h k hf hg
theorem dis_more {F G : Nat → Prop} {a b c d : World} (h : Dis F G) (hF : ∀ k, F k → k < c.heap.size) (hG : ∀ k, G k → k < a.heap.size) (hbc : b.heap.size ≤ c.heap.size) : Dis (more F a b) (more G c d) := by
  rintro k (h1 | ⟨h1, h2⟩) (h3 | ⟨h3, h4⟩)
  · exact h k h1 h3
  · have := hF k h1; omega
  · have := hG k h3; omega
  · omega

theorem FramePlays_far (n : Int) (wide : Bool) (A : Option Addr) (m c : Nat) (w : World) (hl : 1000 < m) (hm : m ≤ 9223372036854775807) :
    Calls Try.prog 3 #[.int .i64 n, .bool wide, .slice A m c] w fun e w' => e = .returned (.bool true) ∧ Below w.heap.size w w' := by
  go_enter Try.func3, Try.ntmps3
  go_wp2_with fail
  refine (alive_calls w).mono ?_
  rintro e w' ⟨rfl, hb⟩
  go_wp2
  go_ret
  exact ⟨rfl, hb⟩
set_option maxHeartbeats 2000000 in
theorem FramePlays_near (n : Int) (wide : Bool) (A : Option Addr) (c : Nat) (l : List UInt8) (w : World) (hr : Rd w A l) (hl : l.length ≤ 1000) :
    Calls Try.prog 3 #[.int .i64 n, .bool wide, .slice A l.length c] w fun e w' => e = .returned (.bool true) ∧ Below w.heap.size w w' := by
  have n1 := Lib.hid (new_calls n wide)
  have n2 : ∀ w, Calls Try.prog 11 #[.int .i64 5, .bool true] w _ := new_calls 5 true
  have n3 := Lib.hid (newReader_calls n wide)
  have hM := (most_le n).2
  have N2 := Lib.hid n2
  unfold limit at n1
  generalize most n = M at *
  clear n2
  go_enter Try.func3, Try.ntmps3
  go_wp2_with fail
  refine (alive_calls w).mono ?_
  rintro e W ⟨rfl, hb⟩
  go_wp2_with fail
  refine (n1.out W).mono ?_
  rintro e w1 ⟨rfl, rfl⟩
  have pr1 := PR.new W (M + sumN wide) wide
  have b1 := (Below.refl W.heap.size W).alloc (Nat.le_refl _) (.cells (pcells (M + sumN wide) wide 0 none 0 0) 45)
  have z1 : (W.alloc (.cells (pcells (M + sumN wide) wide 0 none 0 0) 45)).heap.size = W.heap.size + 1 := by simp
  generalize W.alloc (.cells (pcells (M + sumN wide) wide 0 none 0 0) 45) = w1 at *
  have HP1 := Lib.hid pr1
  have HZ1 := Lib.hid z1
  clear pr1 z1
  go_wp2_with fail
  refine (N2.out w1).mono ?_
  rintro e w2 ⟨rfl, rfl⟩
  have pr2 := PR.new w1 9 true
  have b2 := (Below.refl w1.heap.size w1).alloc (Nat.le_refl _) (.cells (pcells 9 true 0 none 0 0) 45)
  have z2 : (w1.alloc (.cells (pcells 9 true 0 none 0 0) 45)).heap.size = w1.heap.size + 1 := by simp
  have hlim : limit 5 true = 9 := rfl
  rw [hlim]
  clear hlim
  generalize w1.alloc (.cells (pcells 9 true 0 none 0 0) 45) = w2 at *
  have HP2 := Lib.hid pr2
  have HZ2 := Lib.hid z2
  clear pr2 z2
  go_wp2_with fail
  refine (n3.out w2).mono ?_
  rintro e w3 ⟨rfl, rfl⟩
  have pr3 := RR.new w2 M wide
  have b3 := (Below.refl w2.heap.size w2).alloc (Nat.le_refl _) (.cells (rcells M wide false none 0 0 0 false false) 48)
  generalize w2.alloc (.cells (rcells M wide false none 0 0 0 false false) 48) = w3 at *
  have HP3 := Lib.hid pr3
  have bW : Below w.heap.size w w3 := ((hb.trans (b1.mono hb.size)).trans (b2.mono (Nat.le_trans hb.size b1.size))).trans (b3.mono (Nat.le_trans hb.size (Nat.le_trans b1.size b2.size)))
  have q1 := Lib.hid ((HP1.out.only (Only.of_below (fun _ => False) b2) (fun _ _ h => h)).only (Only.of_below (fun _ => False) b3) (fun _ _ h => h))
  have q2 := Lib.hid (HP2.out.only (Only.of_below (fun _ => False) b3) (fun _ _ h => h))
  have g1 := hb.size
  clear HP1 HP2 pr3 n1 N2 n3
  go_wp2
  go_loopw [11] (PlRel w M wide l W.heap.size w1.heap.size w2.heap.size) (fun i _ => l.length - (intOf i).toNat)
  case atStart =>
    have z1 := HZ1.out
    have z2 := HZ2.out
    exact ⟨0, .out, .out, _, _, _, Nat.zero_le _, rfl, q1.out, q2.out, HP3.out, fun j hj => by rw [hj]; exact g1, fun j hj => by rw [hj]; omega, fun j hj => by rw [hj]; omega, fun j h h' => by omega, fun j h h' => by omega, fun j h h' => by omega, bW, Nat.zero_le _, Nat.zero_le _⟩
  case round =>
    clear HZ1 HZ2 HP3 q1 q2
    obtain ⟨k, s, t, F1, F2, F3, hk, rfl, pr1, pr2, pr3, hF1, hF2, hF3, d12, d13, d23, bel, hs, ht⟩ := hrel
    by_cases hlt : k < l.length
    · obtain ⟨b, off, rfl, hbb, hc⟩ := (hr.below bel).at_ hlt
      have hg : l.getD k 0 = l[k] := by simp [hlt]
      rw [hg] at hc
      clear hg
      generalize l[k] = x at hc
      have PO := push_calls F2 w1.heap.size 9 true t (UInt8.ofNat k) wr pr2 (by omega)
      have hbk : bv (UInt8.ofNat k) = .int .u8 ((k : Int) % 256) := by unfold bv; simp
      rw [hbk] at PO
      have L1 := Lib.hid pr1.lt
      have L2 := Lib.hid pr2.lt
      have L3 := Lib.hid pr3.lt
      have P1 := Lib.hid pr1
      have P3 := Lib.hid pr3
      have ht' := acc_le (L := 9) t (UInt8.ofNat k) ht
      have hs' := acc_step (L := M + sumN wide) s x
      clear pr1 pr2 pr3 hbk
      unfold bv at hc
      unfold Pushed at PO
      generalize (tells true t (UInt8.ofNat k)).1 = z0 at *
      generalize (tells true t (UInt8.ofNat k)).2 = y0 at *
      generalize next 9 t (UInt8.ofNat k) = t' at *
      go_wp2_with fail
      refine PO.mono ?_
      rintro e v1 ⟨B0, d0, rfl, _, pr2, on1⟩
      clear PO
      have P2 := Lib.hid pr2
      have pr1 := P1.out.only on1 d12
      have P3' := Lib.hid (P3.out.only on1 (dis_symm d23))
      have bel1 := bel.trans (on1.below hF2 bel.size)
      have hc1 : v1.cell? ⟨b, off + k, none⟩ = some (.int .u8 (x.toNat : Int)) := by
        obtain ⟨b', off', hA, _, hc'⟩ := (hr.below bel1).at_ hlt
        injection hA with hA
        injection hA with hA1 hA2
        subst hA1 hA2
        have hold := ((hr.below bel).at_ hlt)
        obtain ⟨b2, off2, hA, _, hc2⟩ := hold
        injection hA with hA
        injection hA with hA1 hA2
        subst hA1 hA2
        rw [hc', ← hc2, hc]
      have PP := push_calls F1 W.heap.size (M + sumN wide) wide s x v1 pr1 (by omega)
      unfold bv Pushed at PP
      have L1' := Lib.hid pr1.lt
      clear pr1 pr2 P1 P3 hc
      go_wp2_with fail
      refine PP.mono ?_
      rintro e v2 ⟨B1, e1, rfl, own1, pr1, on2⟩
      clear PP
      have d1' : ∀ j, more F2 wr v1 j → ¬ F1 j := fun j hj hf => by
        rcases hj with h | ⟨h, _⟩
        · exact d12 j hf h
        · have := L1.out j hf; omega
      have P2' := Lib.hid (P2.out.only on2 d1')
      have Q1 := Lib.hid pr1
      have pr3 := P3'.out.only on2 (dis_symm d13)
      have bel2 := bel1.trans (on2.below hF1 bel1.size)
      have hc2 : v2.cell? ⟨b, off + k, none⟩ = some (.int .u8 (x.toNat : Int)) := by
        obtain ⟨b', off', hA, hb', hc'⟩ := (hr.below bel1).at_ hlt
        injection hA with hA
        injection hA with hA1 hA2
        subst hA1 hA2
        obtain ⟨b2, off2, hA, _, hc2⟩ := (hr.below bel2).at_ hlt
        injection hA with hA
        injection hA with hA1 hA2
        subst hA1 hA2
        rw [hc2, ← hc', hc1]
      have PQ := rpush_calls F3 w2.heap.size M wide s x v2 pr3 hM (by omega)
      unfold bv RPushed at PQ
      have hr1 := own1.rd
      have hk1 := Lib.hid own1.blk_ge
      clear pr1 pr3 P2 P3' hc1 own1
      generalize (tells wide s x).1 = z at *
      generalize (tells wide s x).2 = y at *
      go_wp2_with fail
      refine PQ.mono ?_
      rintro e v3 ⟨B2, e2, rfl, own2, pr3, on3⟩
      clear PQ
      have z1 := on1.size
      have z2 := on2.size
      have hr1' := hr1.only on3 (fun j hj hf => by
        have h1 := (hk1.out j hj).1
        have h2 := L3.out j hf
        omega)
      have c1 := run_conv v3 B1 e1 y hr1'
      have c2 := run_conv v3 B2 e2 y own2.rd
      unfold strV at c1 c2
      have bel3 := bel2.trans (on3.below hF3 bel2.size)
      have HE := Lib.hid (show PlRel w M wide l W.heap.size w1.heap.size w2.heap.size (.int .i64 ((k : Int) + 1)) v3 from by
        have dd3 : ∀ {G : Nat → Prop}, Dis G F3 → (∀ j, G j → j < v2.heap.size) → ∀ j, G j → ¬ F3 j := fun h _ => h
        have m2lt := (P2'.out).lt
        have m1lt := (Q1.out).lt
        have x13 : Dis (more F1 v1 v2) F3 := by
          rintro j (h | ⟨h, _⟩) hf
          · exact d13 j h hf
          · have := L3.out j hf; omega
        have x23 : Dis (more F2 wr v1) F3 := by
          rintro j (h | ⟨h, _⟩) hf
          · exact d23 j h hf
          · have := L3.out j hf; omega
        refine ⟨k + 1, _, _, _, _, _, by omega, by rw [Int.natCast_add]; rfl, Q1.out.only on3 x13, P2'.out.only on3 x23, pr3, more_ge hF1 bel1.size, more_ge hF2 bel.size, more_ge hF3 bel2.size, ?_, ?_, ?_, bel3, by omega, ht'⟩
        · exact dis_symm (dis_more (dis_symm d12) (fun j hj => by have := L2.out j hj; omega) L1.out (Nat.le_refl _))
        · exact dis_more d13 (fun j hj => L1'.out j hj |> fun h => by omega) (fun j hj => by have := L3.out j hj; omega) (Nat.le_refl _)
        · exact dis_more d23 (fun j hj => by have := L2.out j hj; omega) (fun j hj => L3.out j hj) z2)
      clear own2 pr3 on1 on2 on3 P2' Q1 L1 L2 L3 L1' hr1 hr1' hk1 d1' bel1 bel2 hc2
      go_wp2
      go_roundw
      case rel => exact HE.out
      case measure => simp [intOf]; omega
    · go_wp2
      go_ret
      exact ⟨rfl, bel⟩
theorem FramePlays_walk (a0 : Int) (a1 : Bool) (a2 : Option Addr) (len2 cap2 : Nat) (z2 : List Int) (w : World) (w0 : (Lit.int .i64 a0).wf = true)
    (h : (a2 = none ∧ len2 = 0 ∧ cap2 = 0 ∧ z2 = []) ∨ ∃ x, a2 = some x ∧ len2 ≤ cap2 ∧ cap2 ≤ maxLen ∧ z2.length = cap2 ∧ (∀ i, i < z2.length → w.cell? (x.add i) = some (.int .u8 (z2.getD i 0))) ∧ ∀ n ∈ z2, (Lit.int .u8 n).wf = true) :
    Calls Try.prog 3 #[.int .i64 a0, .bool a1, .slice a2 len2 cap2] w fun e w' => e = .returned (.bool true) ∧ Below w.heap.size w w' := by
  obtain ⟨l, rfl, hc, hm, hr⟩ := Rd.of_row h
  by_cases hl : l.length ≤ 1000
  · exact FramePlays_near a0 a1 a2 cap2 l w hr hl
  · exact FramePlays_far a0 a1 a2 l.length cap2 w (by omega) (by unfold maxLen at hm; omega)
end Go.Proofs.Ytnogdlekijpdhaa

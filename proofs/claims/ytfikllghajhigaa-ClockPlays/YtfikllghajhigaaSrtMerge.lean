/- The library's merge of two sorted rows, whatever their lengths; the library's stable sort of at most 39 elements. Condition: both rows are sorted and the first's ids are below the second's; of the sort: the row is in the order of its ids. -/
import Derived.Test.YtfikllghajhigaaSrtOne
namespace Go.Proofs.Ytfikllghajhigaa
open Go.Proofs Go.Shelf Go.RowKit Go.Lib Go.Sort
set_option linter.unusedVariables false
variable {α : Type} [Inhabited α]

/-- what the merge promises, for rows of at most N elements together -/
def MergeUpTo (N : Nat) (enc : α → Value) (cf : α → α → Int) (id r : α → Nat) (g : Nat) (cb : Array Value) (blk off cap : Nat) (d0 : Array α) (w0 : World) : Prop :=
  ∀ (a m b : Nat) (d : Array α) (w : World), b - a ≤ N → a < m → m < b → b ≤ d.size → d0.size = d.size → SW enc w0 blk off d w → Srt r a m (ix d) → Srt r m b (ix d) → Crs id a m b (ix d) →
    Calls Try.prog 32 #[.slice (some ⟨blk, off, none⟩) d.size cap, .int .i64 a, .int .i64 m, .int .i64 b, .func (.func g) #[] cb] w fun e w' => e = .returned (.tuple #[]) ∧ ∃ d', SW enc w0 blk off d' w' ∧ d'.size = d.size ∧ Srt r a b (ix d') ∧ Same a b (ix d) (ix d')

set_option maxHeartbeats 64000000 in
set_option maxRecDepth 1000000 in
theorem symMerge_main (enc : α → Value) (cf : α → α → Int) (id r : α → Nat) (K : Rnk cf id r) (g : Nat) (cb : Array Value) (blk off cap a m b N : Nat) (d0 d : Array α) (w0 w : World)
    (eg : ∀ args w, (callFunc g args).run Try.prog w = .ok (.enter g args) w) (hcmp : CmpLays1 Try.prog g cb enc cf blk off d0.size w0) (R : Row1 enc w0 blk off d0) (hs : d0.size = d.size) (S : SW enc w0 blk off d w) (ham : a + 1 < m) (hmb : m + 1 < b) (hb : b ≤ d.size) (hsz : d.size ≤ 1000)
    (S1 : Srt r a m (ix d)) (S2 : Srt r m b (ix d)) (C : Crs id a m b (ix d)) (hN : b - a ≤ N + 1) (IH : MergeUpTo N enc cf id r g cb blk off cap d0 w0) :
    Calls Try.prog 32 #[.slice (some ⟨blk, off, none⟩) d.size cap, .int .i64 a, .int .i64 m, .int .i64 b, .func (.func g) #[] cb] w fun e w' => e = .returned (.tuple #[]) ∧ ∃ d', SW enc w0 blk off d' w' ∧ d'.size = d.size ∧ Srt r a b (ix d') ∧ Same a b (ix d) (ix d') := by
  have mixed : Try.prog.follows Departure.mixedOrders = true := by kernel_rfl
  have HC : Aside _ := hcmp
  have HA : Aside _ := C
  have H1 : Aside _ := S1
  have H2 : Aside _ := S2
  have HK : Aside _ := K
  have HIH : Aside _ := IH
  have HR0 : Aside _ := R
  have S0 : Aside (SW enc w0 blk off d w) := S
  have r1 : IntKind.i64.wrap ((m : Int) - (a : Int)) = (m : Int) - (a : Int) := by rw [IntKind.wrap_i64]; omega
  have e1 : ¬ (m : Int) - (a : Int) = 1 := by omega
  have b1 : ((m : Int) - (a : Int) == 1) = false := by rw [beq_eq_false_iff_ne]; exact e1
  have r2 : IntKind.i64.wrap ((b : Int) - (m : Int)) = (b : Int) - (m : Int) := by rw [IntKind.wrap_i64]; omega
  have e2 : ¬ (b : Int) - (m : Int) = 1 := by omega
  have b2 : ((b : Int) - (m : Int) == 1) = false := by rw [beq_eq_false_iff_ne]; exact e2
  clear S hcmp C S1 S2 K IH R
  obtain ⟨mid, hmid⟩ : ∃ q, q = (a + b) / 2 := ⟨_, rfl⟩
  have em : ((a : Int) + (b : Int)) / 2 = (mid : Int) := by omega
  have hmid1 : a < mid ∧ mid < b ∧ a + b ≤ 2 * mid + 1 ∧ 2 * mid ≤ a + b := by omega
  have HMID : Aside (mid = (a + b) / 2) := hmid
  clear hmid
  obtain ⟨n, hn⟩ : ∃ q, q = mid + m := ⟨_, rfl⟩
  have en : (mid : Int) + (m : Int) = (n : Int) := by omega
  have HNN : Aside (n = mid + m) := hn
  have hnsz : n ≤ 2000 := by omega
  obtain ⟨s0, r0, hcase⟩ : ∃ s0 r0 : Nat, (mid < m ∧ n = s0 + b ∧ r0 = mid) ∨ (m ≤ mid ∧ s0 = a ∧ r0 = m) := by
    by_cases h : mid < m
    · exact ⟨n - b, mid, .inl ⟨h, by omega, rfl⟩⟩
    · exact ⟨a, m, .inr ⟨by omega, rfl, rfl⟩⟩
  have hq : a ≤ s0 ∧ s0 ≤ r0 ∧ r0 ≤ m ∧ m ≤ n - r0 ∧ n - s0 ≤ b ∧ r0 ≤ mid ∧ r0 < n := by rcases hcase with h | h <;> omega
  have hL0 : s0 = a ∨ n - s0 = b := by rcases hcase with h | h <;> omega
  have hU0 : r0 = m ∨ n - r0 = m := by rcases hcase with h | h <;> omega
  have HL0 : Aside _ := hL0
  have HU0 : Aside _ := hU0
  clear hL0 hU0 hn
  go_enter Try.func32, Try.ntmps32
  rcases hcase with ⟨hc1, hc2, hc3⟩ | ⟨hc1, hc2, hc3⟩
  · have z1 : (mid : Int) < (m : Int) := by omega
    have z2 : (n : Int) - (b : Int) = (s0 : Int) := by omega
    have z3 : IntKind.i64.wrap ((n : Int) - (b : Int)) = (s0 : Int) := by rw [IntKind.wrap_i64]; omega
    have HC3 : Aside (r0 = mid) := hc3
    clear hc1 hc2 hc3
    go_wp2
    clear z1 z2 z3
    clear e1 r1 e2 r2 b1 b2
    go_loopg [20, 21] (r0 - s0) (fun kx s20 s21 wr => ∃ (s t : Nat), s20 = .int .i64 s ∧ s21 = .int .i64 t ∧ s0 ≤ s ∧ s ≤ t ∧ t ≤ r0 ∧ t - s ≤ kx ∧ Aside (SW enc w0 blk off d wr) ∧ Aside (s = s0 ∨ r (ix d (s - 1)) < r (ix d (n - s))) ∧ Aside (t = r0 ∨ r (ix d (n - 1 - t)) < r (ix d t)))
    case atStart => exact ⟨s0, r0, rfl, by rw [HC3.out], Nat.le_refl _, by omega, Nat.le_refl _, by omega, S0, .inl rfl, .inl rfl⟩
    case round =>
      clear S0
      obtain ⟨s, t, rfl, rfl, hs0, hst, htr, hkx, S1, HL, HU⟩ := hrel
      by_cases hlt : s < t
      · have hltz : (s : Int) < (t : Int) := by omega
        obtain ⟨cN, hcN⟩ : ∃ q, q = (s + t) / 2 := ⟨_, rfl⟩
        have eh : ((s : Int) + (t : Int)) / 2 = (cN : Int) := by omega
        have ch : s ≤ cN ∧ cN < t := by omega
        clear hcN
        obtain ⟨pN, hpN⟩ : ∃ q, q + 1 + cN = n := ⟨n - 1 - cN, by omega⟩
        have ep : (n : Int) - 1 - (cN : Int) = (pN : Int) := by omega
        have rp : IntKind.i64.wrap ((n : Int) - 1 - (cN : Int)) = (pN : Int) := by rw [IntKind.wrap_i64]; omega
        have rp2 : IntKind.i64.wrap (pN : Int) = (pN : Int) := by rw [IntKind.wrap_i64]; omega
        have hp : m ≤ pN ∧ pN < b := by omega
        have HP : Aside (pN + 1 + cN = n) := hpN
        clear hpN
        go_wp2_with fail
        have pa : (0 : Int) ≤ (pN : Int) := by omega
        have ba : (pN : Int) < (d.size : Int) := by omega
        have bc : (cN : Int) < (d.size : Int) := by omega
        obtain ⟨x1, hx1⟩ : ∃ x, x = d[pN]! := ⟨_, rfl⟩
        obtain ⟨y1, hy1⟩ : ∃ x, x = d[cN]! := ⟨_, rfl⟩
        have vx : Aside (x1 = ix d pN) := hx1
        have vy : Aside (y1 = ix d cN) := hy1
        have lt1 : id y1 < id x1 := by rw [vx.out, vy.out]; exact HA.out cN pN (by omega) (by omega) (by omega) (by omega)
        have l1a := S1.out.cl HR0.out (by omega) pN (by omega)
        have l1b := S1.out.cl HR0.out (by omega) cN (by omega)
        rw [← hx1] at l1a
        rw [← hy1] at l1b
        have hc1 := S1.out.cmp HC.out (by omega) x1 y1
        clear hx1 hy1
        by_cases hlv : cf x1 y1 < 0
        · have hd1 : decide (cf x1 y1 < 0) = true := decide_eq_true hlv
          have HR : Aside (r x1 < r y1) := HK.out.lo _ _ lt1 hlv
          clear lt1
          go_wp2_with fail
          go_quiet_grown (first | (go_at_fn g; refine Calls.grown_of (hc1 _ _)))
          have S2 : Aside (SW enc w0 blk off d (grow (wr.drewN nq) osq)) := S1.out.grown nq osq
          clear l1a l1b hc1 S1
          generalize grow (wr.drewN nq) osq = w2 at S2 ⊢
          clear nq osq
          go_wp2
          go_roundg (cN - s)
          case measure => omega
          case rel => exact ⟨s, cN, rfl, rfl, hs0, by omega, by omega, Nat.le_refl _, S2, HL, .inr (by rw [show n - 1 - cN = pN by have := HP.out; omega, ← vx.out, ← vy.out]; exact HR.out)⟩
        · have hd1 : decide (cf x1 y1 < 0) = false := decide_eq_false hlv
          have HR : Aside (r y1 < r x1) := HK.out.hi _ _ lt1 hlv
          clear lt1
          go_wp2_with fail
          go_quiet_grown (first | (go_at_fn g; refine Calls.grown_of (hc1 _ _)))
          have S2 : Aside (SW enc w0 blk off d (grow (wr.drewN nq) osq)) := S1.out.grown nq osq
          clear l1a l1b hc1 S1
          generalize grow (wr.drewN nq) osq = w2 at S2 ⊢
          clear nq osq
          go_wp2
          go_roundg (t - (cN + 1))
          case measure => omega
          case rel => exact ⟨cN + 1, t, by go_num, rfl, by omega, by omega, htr, Nat.le_refl _, S2, .inr (by rw [show n - (cN + 1) = pN by have := HP.out; omega, Nat.add_sub_cancel, ← vx.out, ← vy.out]; exact HR.out), HU⟩
      · obtain rfl : t = s := by omega
        obtain ⟨e, hee⟩ : ∃ q, q + t = n := ⟨n - t, by omega⟩
        have ee : (n : Int) - (t : Int) = (e : Int) := by omega
        have hef : m ≤ e ∧ e ≤ b ∧ a ≤ t ∧ t ≤ m ∧ t ≤ mid := by omega
        have hme : mid = t + (e - m) := by have := HNN.out; omega
        have HME : Aside (mid = t + (e - m)) := hme
        have hL : t = a ∨ e = b ∨ r (ix d (t - 1)) < r (ix d e) := by
          rcases HL.out with h | h
          · rcases HL0.out with h' | h'
            · exact .inl (by omega)
            · exact .inr (.inl (by omega))
          · exact .inr (.inr (by rw [show n - t = e by omega] at h; exact h))
        have hU : t = m ∨ e = m ∨ r (ix d (e - 1)) < r (ix d t) := by
          rcases HU.out with h | h
          · rcases HU0.out with h' | h'
            · exact .inl (by omega)
            · exact .inr (.inl (by omega))
          · exact .inr (.inr (by rw [show n - 1 - t = e - 1 by omega] at h; exact h))
        have FIN : Aside (∀ {f2 f3 f4 : Nat → α}, Rot t m e (ix d) f2 → Same a mid f2 f3 → Srt r a mid f3 → Same mid b f3 f4 → Srt r mid b f4 → Srt r a b f4 ∧ Same a b (ix d) f4) := fun R M3 T3 M4 T4 => merge_end H1.out H2.out R hef.2.2.2.1 hef.1 hme hef.2.2.1 hef.2.1 hL hU M3 T3 M4 T4
        have SRT : Aside (∀ {f2 : Nat → α}, Rot t m e (ix d) f2 → Srt r a t f2 ∧ Srt r t mid f2 ∧ Srt r mid e f2 ∧ Srt r e b f2) := fun R => Rot.srts H1.out H2.out R hef.2.2.2.1 hef.1 hme hef.2.2.1 hef.2.1
        have CRS : Aside (∀ {f2 : Nat → α}, Rot t m e (ix d) f2 → Crs id a t mid f2 ∧ Crs id mid e b f2) := fun R => Rot.crss HA.out R hef.2.2.2.1 hef.1 hme hef.2.2.1 hef.2.1
        have HEE : Aside (e + t = n) := hee
        clear hL hU HL HU hee
        by_cases p : t < m
        · have hme1 : mid < e := by omega
          by_cases q : t < mid
          · have q2 : m < e := by omega
            clear hme
            by_cases t2 : a < t
            · by_cases u2 : e < b
              · have ip : (t : Int) < (m : Int) := by omega
                have iq : (t : Int) < (mid : Int) := by omega
                have iq2 : (m : Int) < (e : Int) := by omega
                have it2 : (a : Int) < (t : Int) := by omega
                have ime : (mid : Int) < (e : Int) := by omega
                have iu2 : (e : Int) < (b : Int) := by omega
                have CR := rotate_calls enc (.func (.func g) #[] cb) blk off cap t m e d0 d w0 wr HR0.out (by omega) S1.out p q2 (by omega) (by omega)
                clear S1
                go_wp2_with fail
                refine CR.mono ?_
                rintro e2 w2 ⟨rfl, d2, S2, hd2, HR⟩
                have S3 : Aside (SW enc w0 blk off d2 w2) := S2
                have RR : Aside (Rot t m e (ix d) (ix d2)) := HR
                have HD2 : Aside (d2.size = d.size) := hd2
                clear S2 HR CR hd2
                have CM := HIH.out a t mid d2 w2 (by omega) t2 q (by have := HD2.out; omega) (by have := HD2.out; omega) S3.out (SRT.out RR.out).1 (SRT.out RR.out).2.1 (CRS.out RR.out).1
                rw [HD2.out] at CM
                clear S3
                go_wp2_with fail
                refine CM.mono ?_
                rintro e3 w3 ⟨rfl, d3, S4, hd3, T3, M3⟩
                have S5 : Aside (SW enc w0 blk off d3 w3) := S4
                have HD3 : Aside (d3.size = d.size) := hd3
                have A3 : Aside (Srt r a mid (ix d3)) := T3
                have B3 : Aside (Same a mid (ix d2) (ix d3)) := M3
                clear S4 hd3 T3 M3 CM
                have eq3 : ∀ k, mid ≤ k → k < b → ix d3 k = ix d2 k := fun k h5 h6 => B3.out.out k (by omega)
                have EQ3 : Aside _ := eq3
                clear eq3
                have CN := HIH.out mid e b d3 w3 (by omega) hme1 u2 (by have := HD3.out; omega) (by have := HD3.out; omega) S5.out ((SRT.out RR.out).2.2.1.same fun k h5 h6 => EQ3.out k h5 (by omega)) ((SRT.out RR.out).2.2.2.same fun k h5 h6 => EQ3.out k (by omega) h6) ((CRS.out RR.out).2.eq fun k h5 h6 => EQ3.out k h5 h6)
                rw [HD3.out] at CN
                clear S5
                go_wp2_with fail
                refine CN.mono ?_
                rintro e4 w4 ⟨rfl, d4, S6, hd4, T4, M4⟩
                go_wp2
                go_end0
                exact ⟨rfl, d4, S6, hd4, FIN.out RR.out B3.out A3.out M4 T4⟩
              · have ip : (t : Int) < (m : Int) := by omega
                have iq : (t : Int) < (mid : Int) := by omega
                have iq2 : (m : Int) < (e : Int) := by omega
                have it2 : (a : Int) < (t : Int) := by omega
                have ime : (mid : Int) < (e : Int) := by omega
                have iu2 : ¬ (e : Int) < (b : Int) := by omega
                have CR := rotate_calls enc (.func (.func g) #[] cb) blk off cap t m e d0 d w0 wr HR0.out (by omega) S1.out p q2 (by omega) (by omega)
                clear S1
                go_wp2_with fail
                refine CR.mono ?_
                rintro e2 w2 ⟨rfl, d2, S2, hd2, HR⟩
                have S3 : Aside (SW enc w0 blk off d2 w2) := S2
                have RR : Aside (Rot t m e (ix d) (ix d2)) := HR
                have HD2 : Aside (d2.size = d.size) := hd2
                clear S2 HR CR hd2
                have CM := HIH.out a t mid d2 w2 (by omega) t2 q (by have := HD2.out; omega) (by have := HD2.out; omega) S3.out (SRT.out RR.out).1 (SRT.out RR.out).2.1 (CRS.out RR.out).1
                rw [HD2.out] at CM
                clear S3
                go_wp2_with fail
                refine CM.mono ?_
                rintro e3 w3 ⟨rfl, d3, S4, hd3, T3, M3⟩
                have S5 : Aside (SW enc w0 blk off d3 w3) := S4
                have HD3 : Aside (d3.size = d.size) := hd3
                have A3 : Aside (Srt r a mid (ix d3)) := T3
                have B3 : Aside (Same a mid (ix d2) (ix d3)) := M3
                clear S4 hd3 T3 M3 CM
                have eq3 : ∀ k, mid ≤ k → k < b → ix d3 k = ix d2 k := fun k h5 h6 => B3.out.out k (by omega)
                have EQ3 : Aside _ := eq3
                clear eq3
                have T4 : Aside (Srt r mid b (ix d3)) := by have h := (SRT.out RR.out).2.2.1; rw [show e = b by omega] at h; exact h.same fun k h5 h6 => EQ3.out k h5 h6
                go_wp2
                go_end0
                exact ⟨rfl, d3, S5.out, HD3.out, FIN.out RR.out B3.out A3.out (Same.refl _ _ _) T4.out⟩
            · by_cases u2 : e < b
              · have ip : (t : Int) < (m : Int) := by omega
                have iq : (t : Int) < (mid : Int) := by omega
                have iq2 : (m : Int) < (e : Int) := by omega
                have it2 : ¬ (a : Int) < (t : Int) := by omega
                have ime : (mid : Int) < (e : Int) := by omega
                have iu2 : (e : Int) < (b : Int) := by omega
                have CR := rotate_calls enc (.func (.func g) #[] cb) blk off cap t m e d0 d w0 wr HR0.out (by omega) S1.out p q2 (by omega) (by omega)
                clear S1
                go_wp2_with fail
                refine CR.mono ?_
                rintro e2 w2 ⟨rfl, d2, S2, hd2, HR⟩
                have S3 : Aside (SW enc w0 blk off d2 w2) := S2
                have RR : Aside (Rot t m e (ix d) (ix d2)) := HR
                have HD2 : Aside (d2.size = d.size) := hd2
                clear S2 HR CR hd2
                have HD3 : Aside (d2.size = d.size) := HD2.out
                have A3 : Aside (Srt r a mid (ix d2)) := by have h := (SRT.out RR.out).2.1; rw [show t = a by omega] at h; exact h
                have B3 : Aside (Same a mid (ix d2) (ix d2)) := Same.refl _ _ _
                have eq3 : ∀ k, mid ≤ k → k < b → ix d2 k = ix d2 k := fun k h5 h6 => B3.out.out k (by omega)
                have EQ3 : Aside _ := eq3
                clear eq3
                have CN := HIH.out mid e b d2 w2 (by omega) hme1 u2 (by have := HD3.out; omega) (by have := HD3.out; omega) S3.out ((SRT.out RR.out).2.2.1.same fun k h5 h6 => EQ3.out k h5 (by omega)) ((SRT.out RR.out).2.2.2.same fun k h5 h6 => EQ3.out k (by omega) h6) ((CRS.out RR.out).2.eq fun k h5 h6 => EQ3.out k h5 h6)
                rw [HD3.out] at CN
                clear S3
                go_wp2_with fail
                refine CN.mono ?_
                rintro e4 w4 ⟨rfl, d4, S6, hd4, T4, M4⟩
                go_wp2
                go_end0
                exact ⟨rfl, d4, S6, hd4, FIN.out RR.out B3.out A3.out M4 T4⟩
              · have ip : (t : Int) < (m : Int) := by omega
                have iq : (t : Int) < (mid : Int) := by omega
                have iq2 : (m : Int) < (e : Int) := by omega
                have it2 : ¬ (a : Int) < (t : Int) := by omega
                have ime : (mid : Int) < (e : Int) := by omega
                have iu2 : ¬ (e : Int) < (b : Int) := by omega
                have CR := rotate_calls enc (.func (.func g) #[] cb) blk off cap t m e d0 d w0 wr HR0.out (by omega) S1.out p q2 (by omega) (by omega)
                clear S1
                go_wp2_with fail
                refine CR.mono ?_
                rintro e2 w2 ⟨rfl, d2, S2, hd2, HR⟩
                have S3 : Aside (SW enc w0 blk off d2 w2) := S2
                have RR : Aside (Rot t m e (ix d) (ix d2)) := HR
                have HD2 : Aside (d2.size = d.size) := hd2
                clear S2 HR CR hd2
                have HD3 : Aside (d2.size = d.size) := HD2.out
                have A3 : Aside (Srt r a mid (ix d2)) := by have h := (SRT.out RR.out).2.1; rw [show t = a by omega] at h; exact h
                have B3 : Aside (Same a mid (ix d2) (ix d2)) := Same.refl _ _ _
                have eq3 : ∀ k, mid ≤ k → k < b → ix d2 k = ix d2 k := fun k h5 h6 => B3.out.out k (by omega)
                have EQ3 : Aside _ := eq3
                clear eq3
                have T4 : Aside (Srt r mid b (ix d2)) := by have h := (SRT.out RR.out).2.2.1; rw [show e = b by omega] at h; exact h.same fun k h5 h6 => EQ3.out k h5 h6
                go_wp2
                go_end0
                exact ⟨rfl, d2, S3.out, HD3.out, FIN.out RR.out B3.out A3.out (Same.refl _ _ _) T4.out⟩
          · have q2 : ¬ m < e := by omega
            have u2 : e < b := by omega
            clear hme
            have ip : (t : Int) < (m : Int) := by omega
            have iq : ¬ (t : Int) < (mid : Int) := by omega
            have iq2 : ¬ (m : Int) < (e : Int) := by omega
            have ime : (mid : Int) < (e : Int) := by omega
            have iu2 : (e : Int) < (b : Int) := by omega
            have RR : Aside (Rot t m e (ix d) (ix d)) := Rot.none (by omega) _
            have HD2 : Aside (d.size = d.size) := rfl
            have HD3 : Aside (d.size = d.size) := HD2.out
            have A3 : Aside (Srt r a mid (ix d)) := by have h := (SRT.out RR.out).1; rw [show t = mid by omega] at h; exact h
            have B3 : Aside (Same a mid (ix d) (ix d)) := Same.refl _ _ _
            have eq3 : ∀ k, mid ≤ k → k < b → ix d k = ix d k := fun k h5 h6 => B3.out.out k (by omega)
            have EQ3 : Aside _ := eq3
            clear eq3
            have CN := HIH.out mid e b d wr (by omega) hme1 u2 (by have := HD3.out; omega) (by have := HD3.out; omega) S1.out ((SRT.out RR.out).2.2.1.same fun k h5 h6 => EQ3.out k h5 (by omega)) ((SRT.out RR.out).2.2.2.same fun k h5 h6 => EQ3.out k (by omega) h6) ((CRS.out RR.out).2.eq fun k h5 h6 => EQ3.out k h5 h6)
            rw [HD3.out] at CN
            clear S1
            go_wp2_with fail
            refine CN.mono ?_
            rintro e4 w4 ⟨rfl, d4, S6, hd4, T4, M4⟩
            go_wp2
            go_end0
            exact ⟨rfl, d4, S6, hd4, FIN.out RR.out B3.out A3.out M4 T4⟩
        · have hme1 : ¬ mid < e := by omega
          have t2 : a < t := by omega
          by_cases q : t < mid
          · have q2 : m < e := by omega
            clear hme
            have ip : ¬ (t : Int) < (m : Int) := by omega
            have iq : (t : Int) < (mid : Int) := by omega
            have iq2 : (m : Int) < (e : Int) := by omega
            have it2 : (a : Int) < (t : Int) := by omega
            have ime : ¬ (mid : Int) < (e : Int) := by omega
            have RR : Aside (Rot t m e (ix d) (ix d)) := Rot.none (by omega) _
            have HD2 : Aside (d.size = d.size) := rfl
            have CM := HIH.out a t mid d wr (by omega) t2 q (by have := HD2.out; omega) (by have := HD2.out; omega) S1.out (SRT.out RR.out).1 (SRT.out RR.out).2.1 (CRS.out RR.out).1
            rw [HD2.out] at CM
            clear S1
            go_wp2_with fail
            refine CM.mono ?_
            rintro e3 w3 ⟨rfl, d3, S4, hd3, T3, M3⟩
            have S5 : Aside (SW enc w0 blk off d3 w3) := S4
            have HD3 : Aside (d3.size = d.size) := hd3
            have A3 : Aside (Srt r a mid (ix d3)) := T3
            have B3 : Aside (Same a mid (ix d) (ix d3)) := M3
            clear S4 hd3 T3 M3 CM
            have eq3 : ∀ k, mid ≤ k → k < b → ix d3 k = ix d k := fun k h5 h6 => B3.out.out k (by omega)
            have EQ3 : Aside _ := eq3
            clear eq3
            have T4 : Aside (Srt r mid b (ix d3)) := by have h := (SRT.out RR.out).2.2.2; rw [show e = mid by omega] at h; exact h.same fun k h5 h6 => EQ3.out k h5 h6
            go_wp2
            go_end0
            exact ⟨rfl, d3, S5.out, HD3.out, FIN.out RR.out B3.out A3.out (Same.refl _ _ _) T4.out⟩
          · have q2 : ¬ m < e := by omega
            clear hme
            have ip : ¬ (t : Int) < (m : Int) := by omega
            have iq : ¬ (t : Int) < (mid : Int) := by omega
            have iq2 : ¬ (m : Int) < (e : Int) := by omega
            have it2 : (a : Int) < (t : Int) := by omega
            have ime : ¬ (mid : Int) < (e : Int) := by omega
            have RR : Aside (Rot t m e (ix d) (ix d)) := Rot.none (by omega) _
            have HD2 : Aside (d.size = d.size) := rfl
            have HD3 : Aside (d.size = d.size) := HD2.out
            have A3 : Aside (Srt r a mid (ix d)) := by have h := (SRT.out RR.out).1; rw [show t = mid by omega] at h; exact h
            have B3 : Aside (Same a mid (ix d) (ix d)) := Same.refl _ _ _
            have eq3 : ∀ k, mid ≤ k → k < b → ix d k = ix d k := fun k h5 h6 => B3.out.out k (by omega)
            have EQ3 : Aside _ := eq3
            clear eq3
            have T4 : Aside (Srt r mid b (ix d)) := by have h := (SRT.out RR.out).2.2.2; rw [show e = mid by omega] at h; exact h.same fun k h5 h6 => EQ3.out k h5 h6
            go_wp2
            go_end0
            exact ⟨rfl, d, S1.out, rfl, FIN.out RR.out B3.out A3.out (Same.refl _ _ _) T4.out⟩
  · have z1 : ¬ (mid : Int) < (m : Int) := by omega
    have HC2 : Aside (s0 = a) := hc2
    have HC3 : Aside (r0 = m) := hc3
    clear hc1 hc2 hc3
    go_wp2
    clear z1
    clear e1 r1 e2 r2 b1 b2
    go_loopg [20, 21] (r0 - s0) (fun kx s20 s21 wr => ∃ (s t : Nat), s20 = .int .i64 s ∧ s21 = .int .i64 t ∧ s0 ≤ s ∧ s ≤ t ∧ t ≤ r0 ∧ t - s ≤ kx ∧ Aside (SW enc w0 blk off d wr) ∧ Aside (s = s0 ∨ r (ix d (s - 1)) < r (ix d (n - s))) ∧ Aside (t = r0 ∨ r (ix d (n - 1 - t)) < r (ix d t)))
    case atStart => exact ⟨s0, r0, by rw [HC2.out], by rw [HC3.out], Nat.le_refl _, by omega, Nat.le_refl _, by omega, S0, .inl rfl, .inl rfl⟩
    case round =>
      clear S0
      obtain ⟨s, t, rfl, rfl, hs0, hst, htr, hkx, S1, HL, HU⟩ := hrel
      by_cases hlt : s < t
      · have hltz : (s : Int) < (t : Int) := by omega
        obtain ⟨cN, hcN⟩ : ∃ q, q = (s + t) / 2 := ⟨_, rfl⟩
        have eh : ((s : Int) + (t : Int)) / 2 = (cN : Int) := by omega
        have ch : s ≤ cN ∧ cN < t := by omega
        clear hcN
        obtain ⟨pN, hpN⟩ : ∃ q, q + 1 + cN = n := ⟨n - 1 - cN, by omega⟩
        have ep : (n : Int) - 1 - (cN : Int) = (pN : Int) := by omega
        have rp : IntKind.i64.wrap ((n : Int) - 1 - (cN : Int)) = (pN : Int) := by rw [IntKind.wrap_i64]; omega
        have rp2 : IntKind.i64.wrap (pN : Int) = (pN : Int) := by rw [IntKind.wrap_i64]; omega
        have hp : m ≤ pN ∧ pN < b := by omega
        have HP : Aside (pN + 1 + cN = n) := hpN
        clear hpN
        go_wp2_with fail
        have pa : (0 : Int) ≤ (pN : Int) := by omega
        have ba : (pN : Int) < (d.size : Int) := by omega
        have bc : (cN : Int) < (d.size : Int) := by omega
        obtain ⟨x1, hx1⟩ : ∃ x, x = d[pN]! := ⟨_, rfl⟩
        obtain ⟨y1, hy1⟩ : ∃ x, x = d[cN]! := ⟨_, rfl⟩
        have vx : Aside (x1 = ix d pN) := hx1
        have vy : Aside (y1 = ix d cN) := hy1
        have lt1 : id y1 < id x1 := by rw [vx.out, vy.out]; exact HA.out cN pN (by omega) (by omega) (by omega) (by omega)
        have l1a := S1.out.cl HR0.out (by omega) pN (by omega)
        have l1b := S1.out.cl HR0.out (by omega) cN (by omega)
        rw [← hx1] at l1a
        rw [← hy1] at l1b
        have hc1 := S1.out.cmp HC.out (by omega) x1 y1
        clear hx1 hy1
        by_cases hlv : cf x1 y1 < 0
        · have hd1 : decide (cf x1 y1 < 0) = true := decide_eq_true hlv
          have HR : Aside (r x1 < r y1) := HK.out.lo _ _ lt1 hlv
          clear lt1
          go_wp2_with fail
          go_quiet_grown (first | (go_at_fn g; refine Calls.grown_of (hc1 _ _)))
          have S2 : Aside (SW enc w0 blk off d (grow (wr.drewN nq) osq)) := S1.out.grown nq osq
          clear l1a l1b hc1 S1
          generalize grow (wr.drewN nq) osq = w2 at S2 ⊢
          clear nq osq
          go_wp2
          go_roundg (cN - s)
          case measure => omega
          case rel => exact ⟨s, cN, rfl, rfl, hs0, by omega, by omega, Nat.le_refl _, S2, HL, .inr (by rw [show n - 1 - cN = pN by have := HP.out; omega, ← vx.out, ← vy.out]; exact HR.out)⟩
        · have hd1 : decide (cf x1 y1 < 0) = false := decide_eq_false hlv
          have HR : Aside (r y1 < r x1) := HK.out.hi _ _ lt1 hlv
          clear lt1
          go_wp2_with fail
          go_quiet_grown (first | (go_at_fn g; refine Calls.grown_of (hc1 _ _)))
          have S2 : Aside (SW enc w0 blk off d (grow (wr.drewN nq) osq)) := S1.out.grown nq osq
          clear l1a l1b hc1 S1
          generalize grow (wr.drewN nq) osq = w2 at S2 ⊢
          clear nq osq
          go_wp2
          go_roundg (t - (cN + 1))
          case measure => omega
          case rel => exact ⟨cN + 1, t, by go_num, rfl, by omega, by omega, htr, Nat.le_refl _, S2, .inr (by rw [show n - (cN + 1) = pN by have := HP.out; omega, Nat.add_sub_cancel, ← vx.out, ← vy.out]; exact HR.out), HU⟩
      · obtain rfl : t = s := by omega
        obtain ⟨e, hee⟩ : ∃ q, q + t = n := ⟨n - t, by omega⟩
        have ee : (n : Int) - (t : Int) = (e : Int) := by omega
        have hef : m ≤ e ∧ e ≤ b ∧ a ≤ t ∧ t ≤ m ∧ t ≤ mid := by omega
        have hme : mid = t + (e - m) := by have := HNN.out; omega
        have HME : Aside (mid = t + (e - m)) := hme
        have hL : t = a ∨ e = b ∨ r (ix d (t - 1)) < r (ix d e) := by
          rcases HL.out with h | h
          · rcases HL0.out with h' | h'
            · exact .inl (by omega)
            · exact .inr (.inl (by omega))
          · exact .inr (.inr (by rw [show n - t = e by omega] at h; exact h))
        have hU : t = m ∨ e = m ∨ r (ix d (e - 1)) < r (ix d t) := by
          rcases HU.out with h | h
          · rcases HU0.out with h' | h'
            · exact .inl (by omega)
            · exact .inr (.inl (by omega))
          · exact .inr (.inr (by rw [show n - 1 - t = e - 1 by omega] at h; exact h))
        have FIN : Aside (∀ {f2 f3 f4 : Nat → α}, Rot t m e (ix d) f2 → Same a mid f2 f3 → Srt r a mid f3 → Same mid b f3 f4 → Srt r mid b f4 → Srt r a b f4 ∧ Same a b (ix d) f4) := fun R M3 T3 M4 T4 => merge_end H1.out H2.out R hef.2.2.2.1 hef.1 hme hef.2.2.1 hef.2.1 hL hU M3 T3 M4 T4
        have SRT : Aside (∀ {f2 : Nat → α}, Rot t m e (ix d) f2 → Srt r a t f2 ∧ Srt r t mid f2 ∧ Srt r mid e f2 ∧ Srt r e b f2) := fun R => Rot.srts H1.out H2.out R hef.2.2.2.1 hef.1 hme hef.2.2.1 hef.2.1
        have CRS : Aside (∀ {f2 : Nat → α}, Rot t m e (ix d) f2 → Crs id a t mid f2 ∧ Crs id mid e b f2) := fun R => Rot.crss HA.out R hef.2.2.2.1 hef.1 hme hef.2.2.1 hef.2.1
        have HEE : Aside (e + t = n) := hee
        clear hL hU HL HU hee
        by_cases p : t < m
        · have hme1 : mid < e := by omega
          by_cases q : t < mid
          · have q2 : m < e := by omega
            clear hme
            by_cases t2 : a < t
            · by_cases u2 : e < b
              · have ip : (t : Int) < (m : Int) := by omega
                have iq : (t : Int) < (mid : Int) := by omega
                have iq2 : (m : Int) < (e : Int) := by omega
                have it2 : (a : Int) < (t : Int) := by omega
                have ime : (mid : Int) < (e : Int) := by omega
                have iu2 : (e : Int) < (b : Int) := by omega
                have CR := rotate_calls enc (.func (.func g) #[] cb) blk off cap t m e d0 d w0 wr HR0.out (by omega) S1.out p q2 (by omega) (by omega)
                clear S1
                go_wp2_with fail
                refine CR.mono ?_
                rintro e2 w2 ⟨rfl, d2, S2, hd2, HR⟩
                have S3 : Aside (SW enc w0 blk off d2 w2) := S2
                have RR : Aside (Rot t m e (ix d) (ix d2)) := HR
                have HD2 : Aside (d2.size = d.size) := hd2
                clear S2 HR CR hd2
                have CM := HIH.out a t mid d2 w2 (by omega) t2 q (by have := HD2.out; omega) (by have := HD2.out; omega) S3.out (SRT.out RR.out).1 (SRT.out RR.out).2.1 (CRS.out RR.out).1
                rw [HD2.out] at CM
                clear S3
                go_wp2_with fail
                refine CM.mono ?_
                rintro e3 w3 ⟨rfl, d3, S4, hd3, T3, M3⟩
                have S5 : Aside (SW enc w0 blk off d3 w3) := S4
                have HD3 : Aside (d3.size = d.size) := hd3
                have A3 : Aside (Srt r a mid (ix d3)) := T3
                have B3 : Aside (Same a mid (ix d2) (ix d3)) := M3
                clear S4 hd3 T3 M3 CM
                have eq3 : ∀ k, mid ≤ k → k < b → ix d3 k = ix d2 k := fun k h5 h6 => B3.out.out k (by omega)
                have EQ3 : Aside _ := eq3
                clear eq3
                have CN := HIH.out mid e b d3 w3 (by omega) hme1 u2 (by have := HD3.out; omega) (by have := HD3.out; omega) S5.out ((SRT.out RR.out).2.2.1.same fun k h5 h6 => EQ3.out k h5 (by omega)) ((SRT.out RR.out).2.2.2.same fun k h5 h6 => EQ3.out k (by omega) h6) ((CRS.out RR.out).2.eq fun k h5 h6 => EQ3.out k h5 h6)
                rw [HD3.out] at CN
                clear S5
                go_wp2_with fail
                refine CN.mono ?_
                rintro e4 w4 ⟨rfl, d4, S6, hd4, T4, M4⟩
                go_wp2
                go_end0
                exact ⟨rfl, d4, S6, hd4, FIN.out RR.out B3.out A3.out M4 T4⟩
              · have ip : (t : Int) < (m : Int) := by omega
                have iq : (t : Int) < (mid : Int) := by omega
                have iq2 : (m : Int) < (e : Int) := by omega
                have it2 : (a : Int) < (t : Int) := by omega
                have ime : (mid : Int) < (e : Int) := by omega
                have iu2 : ¬ (e : Int) < (b : Int) := by omega
                have CR := rotate_calls enc (.func (.func g) #[] cb) blk off cap t m e d0 d w0 wr HR0.out (by omega) S1.out p q2 (by omega) (by omega)
                clear S1
                go_wp2_with fail
                refine CR.mono ?_
                rintro e2 w2 ⟨rfl, d2, S2, hd2, HR⟩
                have S3 : Aside (SW enc w0 blk off d2 w2) := S2
                have RR : Aside (Rot t m e (ix d) (ix d2)) := HR
                have HD2 : Aside (d2.size = d.size) := hd2
                clear S2 HR CR hd2
                have CM := HIH.out a t mid d2 w2 (by omega) t2 q (by have := HD2.out; omega) (by have := HD2.out; omega) S3.out (SRT.out RR.out).1 (SRT.out RR.out).2.1 (CRS.out RR.out).1
                rw [HD2.out] at CM
                clear S3
                go_wp2_with fail
                refine CM.mono ?_
                rintro e3 w3 ⟨rfl, d3, S4, hd3, T3, M3⟩
                have S5 : Aside (SW enc w0 blk off d3 w3) := S4
                have HD3 : Aside (d3.size = d.size) := hd3
                have A3 : Aside (Srt r a mid (ix d3)) := T3
                have B3 : Aside (Same a mid (ix d2) (ix d3)) := M3
                clear S4 hd3 T3 M3 CM
                have eq3 : ∀ k, mid ≤ k → k < b → ix d3 k = ix d2 k := fun k h5 h6 => B3.out.out k (by omega)
                have EQ3 : Aside _ := eq3
                clear eq3
                have T4 : Aside (Srt r mid b (ix d3)) := by have h := (SRT.out RR.out).2.2.1; rw [show e = b by omega] at h; exact h.same fun k h5 h6 => EQ3.out k h5 h6
                go_wp2
                go_end0
                exact ⟨rfl, d3, S5.out, HD3.out, FIN.out RR.out B3.out A3.out (Same.refl _ _ _) T4.out⟩
            · by_cases u2 : e < b
              · have ip : (t : Int) < (m : Int) := by omega
                have iq : (t : Int) < (mid : Int) := by omega
                have iq2 : (m : Int) < (e : Int) := by omega
                have it2 : ¬ (a : Int) < (t : Int) := by omega
                have ime : (mid : Int) < (e : Int) := by omega
                have iu2 : (e : Int) < (b : Int) := by omega
                have CR := rotate_calls enc (.func (.func g) #[] cb) blk off cap t m e d0 d w0 wr HR0.out (by omega) S1.out p q2 (by omega) (by omega)
                clear S1
                go_wp2_with fail
                refine CR.mono ?_
                rintro e2 w2 ⟨rfl, d2, S2, hd2, HR⟩
                have S3 : Aside (SW enc w0 blk off d2 w2) := S2
                have RR : Aside (Rot t m e (ix d) (ix d2)) := HR
                have HD2 : Aside (d2.size = d.size) := hd2
                clear S2 HR CR hd2
                have HD3 : Aside (d2.size = d.size) := HD2.out
                have A3 : Aside (Srt r a mid (ix d2)) := by have h := (SRT.out RR.out).2.1; rw [show t = a by omega] at h; exact h
                have B3 : Aside (Same a mid (ix d2) (ix d2)) := Same.refl _ _ _
                have eq3 : ∀ k, mid ≤ k → k < b → ix d2 k = ix d2 k := fun k h5 h6 => B3.out.out k (by omega)
                have EQ3 : Aside _ := eq3
                clear eq3
                have CN := HIH.out mid e b d2 w2 (by omega) hme1 u2 (by have := HD3.out; omega) (by have := HD3.out; omega) S3.out ((SRT.out RR.out).2.2.1.same fun k h5 h6 => EQ3.out k h5 (by omega)) ((SRT.out RR.out).2.2.2.same fun k h5 h6 => EQ3.out k (by omega) h6) ((CRS.out RR.out).2.eq fun k h5 h6 => EQ3.out k h5 h6)
                rw [HD3.out] at CN
                clear S3
                go_wp2_with fail
                refine CN.mono ?_
                rintro e4 w4 ⟨rfl, d4, S6, hd4, T4, M4⟩
                go_wp2
                go_end0
                exact ⟨rfl, d4, S6, hd4, FIN.out RR.out B3.out A3.out M4 T4⟩
              · have ip : (t : Int) < (m : Int) := by omega
                have iq : (t : Int) < (mid : Int) := by omega
                have iq2 : (m : Int) < (e : Int) := by omega
                have it2 : ¬ (a : Int) < (t : Int) := by omega
                have ime : (mid : Int) < (e : Int) := by omega
                have iu2 : ¬ (e : Int) < (b : Int) := by omega
                have CR := rotate_calls enc (.func (.func g) #[] cb) blk off cap t m e d0 d w0 wr HR0.out (by omega) S1.out p q2 (by omega) (by omega)
                clear S1
                go_wp2_with fail
                refine CR.mono ?_
                rintro e2 w2 ⟨rfl, d2, S2, hd2, HR⟩
                have S3 : Aside (SW enc w0 blk off d2 w2) := S2
                have RR : Aside (Rot t m e (ix d) (ix d2)) := HR
                have HD2 : Aside (d2.size = d.size) := hd2
                clear S2 HR CR hd2
                have HD3 : Aside (d2.size = d.size) := HD2.out
                have A3 : Aside (Srt r a mid (ix d2)) := by have h := (SRT.out RR.out).2.1; rw [show t = a by omega] at h; exact h
                have B3 : Aside (Same a mid (ix d2) (ix d2)) := Same.refl _ _ _
                have eq3 : ∀ k, mid ≤ k → k < b → ix d2 k = ix d2 k := fun k h5 h6 => B3.out.out k (by omega)
                have EQ3 : Aside _ := eq3
                clear eq3
                have T4 : Aside (Srt r mid b (ix d2)) := by have h := (SRT.out RR.out).2.2.1; rw [show e = b by omega] at h; exact h.same fun k h5 h6 => EQ3.out k h5 h6
                go_wp2
                go_end0
                exact ⟨rfl, d2, S3.out, HD3.out, FIN.out RR.out B3.out A3.out (Same.refl _ _ _) T4.out⟩
          · have q2 : ¬ m < e := by omega
            have u2 : e < b := by omega
            clear hme
            have ip : (t : Int) < (m : Int) := by omega
            have iq : ¬ (t : Int) < (mid : Int) := by omega
            have iq2 : ¬ (m : Int) < (e : Int) := by omega
            have ime : (mid : Int) < (e : Int) := by omega
            have iu2 : (e : Int) < (b : Int) := by omega
            have RR : Aside (Rot t m e (ix d) (ix d)) := Rot.none (by omega) _
            have HD2 : Aside (d.size = d.size) := rfl
            have HD3 : Aside (d.size = d.size) := HD2.out
            have A3 : Aside (Srt r a mid (ix d)) := by have h := (SRT.out RR.out).1; rw [show t = mid by omega] at h; exact h
            have B3 : Aside (Same a mid (ix d) (ix d)) := Same.refl _ _ _
            have eq3 : ∀ k, mid ≤ k → k < b → ix d k = ix d k := fun k h5 h6 => B3.out.out k (by omega)
            have EQ3 : Aside _ := eq3
            clear eq3
            have CN := HIH.out mid e b d wr (by omega) hme1 u2 (by have := HD3.out; omega) (by have := HD3.out; omega) S1.out ((SRT.out RR.out).2.2.1.same fun k h5 h6 => EQ3.out k h5 (by omega)) ((SRT.out RR.out).2.2.2.same fun k h5 h6 => EQ3.out k (by omega) h6) ((CRS.out RR.out).2.eq fun k h5 h6 => EQ3.out k h5 h6)
            rw [HD3.out] at CN
            clear S1
            go_wp2_with fail
            refine CN.mono ?_
            rintro e4 w4 ⟨rfl, d4, S6, hd4, T4, M4⟩
            go_wp2
            go_end0
            exact ⟨rfl, d4, S6, hd4, FIN.out RR.out B3.out A3.out M4 T4⟩
        · have hme1 : ¬ mid < e := by omega
          have t2 : a < t := by omega
          by_cases q : t < mid
          · have q2 : m < e := by omega
            clear hme
            have ip : ¬ (t : Int) < (m : Int) := by omega
            have iq : (t : Int) < (mid : Int) := by omega
            have iq2 : (m : Int) < (e : Int) := by omega
            have it2 : (a : Int) < (t : Int) := by omega
            have ime : ¬ (mid : Int) < (e : Int) := by omega
            have RR : Aside (Rot t m e (ix d) (ix d)) := Rot.none (by omega) _
            have HD2 : Aside (d.size = d.size) := rfl
            have CM := HIH.out a t mid d wr (by omega) t2 q (by have := HD2.out; omega) (by have := HD2.out; omega) S1.out (SRT.out RR.out).1 (SRT.out RR.out).2.1 (CRS.out RR.out).1
            rw [HD2.out] at CM
            clear S1
            go_wp2_with fail
            refine CM.mono ?_
            rintro e3 w3 ⟨rfl, d3, S4, hd3, T3, M3⟩
            have S5 : Aside (SW enc w0 blk off d3 w3) := S4
            have HD3 : Aside (d3.size = d.size) := hd3
            have A3 : Aside (Srt r a mid (ix d3)) := T3
            have B3 : Aside (Same a mid (ix d) (ix d3)) := M3
            clear S4 hd3 T3 M3 CM
            have eq3 : ∀ k, mid ≤ k → k < b → ix d3 k = ix d k := fun k h5 h6 => B3.out.out k (by omega)
            have EQ3 : Aside _ := eq3
            clear eq3
            have T4 : Aside (Srt r mid b (ix d3)) := by have h := (SRT.out RR.out).2.2.2; rw [show e = mid by omega] at h; exact h.same fun k h5 h6 => EQ3.out k h5 h6
            go_wp2
            go_end0
            exact ⟨rfl, d3, S5.out, HD3.out, FIN.out RR.out B3.out A3.out (Same.refl _ _ _) T4.out⟩
          · have q2 : ¬ m < e := by omega
            clear hme
            have ip : ¬ (t : Int) < (m : Int) := by omega
            have iq : ¬ (t : Int) < (mid : Int) := by omega
            have iq2 : ¬ (m : Int) < (e : Int) := by omega
            have it2 : (a : Int) < (t : Int) := by omega
            have ime : ¬ (mid : Int) < (e : Int) := by omega
            have RR : Aside (Rot t m e (ix d) (ix d)) := Rot.none (by omega) _
            have HD2 : Aside (d.size = d.size) := rfl
            have HD3 : Aside (d.size = d.size) := HD2.out
            have A3 : Aside (Srt r a mid (ix d)) := by have h := (SRT.out RR.out).1; rw [show t = mid by omega] at h; exact h
            have B3 : Aside (Same a mid (ix d) (ix d)) := Same.refl _ _ _
            have eq3 : ∀ k, mid ≤ k → k < b → ix d k = ix d k := fun k h5 h6 => B3.out.out k (by omega)
            have EQ3 : Aside _ := eq3
            clear eq3
            have T4 : Aside (Srt r mid b (ix d)) := by have h := (SRT.out RR.out).2.2.2; rw [show e = mid by omega] at h; exact h.same fun k h5 h6 => EQ3.out k h5 h6
            go_wp2
            go_end0
            exact ⟨rfl, d, S1.out, rfl, FIN.out RR.out B3.out A3.out (Same.refl _ _ _) T4.out⟩
end Go.Proofs.Ytfikllghajhigaa

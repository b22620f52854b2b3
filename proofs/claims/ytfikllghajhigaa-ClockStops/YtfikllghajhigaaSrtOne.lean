/- The library's merge of two sorted rows where the first, or the second, holds one element. Condition: both are sorted, and the first's ids are below the second's. -/
import Derived.Test.YtfikllghajhigaaSrtIns
namespace Go.Proofs.Ytfikllghajhigaa
open Go.Proofs Go.Shelf Go.RowKit Go.Lib Go.Sort
set_option linter.unusedVariables false
variable {α : Type} [Inhabited α]

set_option maxHeartbeats 16000000 in
set_option maxRecDepth 1000000 in
theorem symMerge_first (enc : α → Value) (cf : α → α → Int) (id r : α → Nat) (K : Rnk cf id r) (g : Nat) (cb : Array Value) (blk off cap a m b : Nat) (d0 d : Array α) (w0 w : World)
    (eg : ∀ args w, (callFunc g args).run Try.prog w = .ok (.enter g args) w) (hcmp : CmpLays1 Try.prog g cb enc cf blk off d0.size w0) (R : Row1 enc w0 blk off d0) (hs : d0.size = d.size) (S : SW enc w0 blk off d w) (ham : a + 1 = m) (hmb : m < b) (hb : b ≤ d.size) (hsz : d.size < 4611686018427387904)
    (S2 : Srt r m b (ix d)) (C : Crs id a m b (ix d)) :
    Calls Try.prog 32 #[.slice (some ⟨blk, off, none⟩) d.size cap, .int .i64 a, .int .i64 m, .int .i64 b, .func (.func g) #[] cb] w fun e w' => e = .returned (.tuple #[]) ∧ ∃ d', SW enc w0 blk off d' w' ∧ d'.size = d.size ∧ Srt r a b (ix d') ∧ Same a b (ix d) (ix d') := by
  have mixed : Try.prog.follows Departure.mixedOrders = true := by kernel_rfl
  have hcl0 := R.hO.cells
  simp only [Value.cells] at hcl0
  have hst := R.hO.store Try.prog
  have HC : Aside _ := hcmp
  have HA : Aside _ := C
  have H2 : Aside _ := S2
  have HK : Aside _ := K
  have S0 : Aside (SW enc w0 blk off d w) := S
  have r1 : IntKind.i64.wrap ((m : Int) - (a : Int)) = 1 := by rw [IntKind.wrap_i64]; omega
  have e1 : (m : Int) - (a : Int) = 1 := by omega
  have HAM : Aside (a + 1 = m) := ham
  clear S hcmp C S2 K ham
  go_enter Try.func32, Try.ntmps32
  go_wp2
  clear e1 r1
  go_loopg [10, 11] (b - m) (fun kx s10 s11 wr => ∃ (i j : Nat), s10 = .int .i64 i ∧ s11 = .int .i64 j ∧ m ≤ i ∧ i ≤ j ∧ j ≤ b ∧ j - i ≤ kx ∧ Aside (SW enc w0 blk off d wr) ∧ Aside (i = m ∨ r (ix d (i - 1)) < r (ix d a)) ∧ Aside (j = b ∨ r (ix d a) < r (ix d j)))
  case atStart => exact ⟨m, b, rfl, rfl, Nat.le_refl _, by omega, Nat.le_refl _, by omega, S0, .inl rfl, .inl rfl⟩
  case round =>
    clear S0
    obtain ⟨i, j, rfl, rfl, hmi, hij, hjb, hkx, S1, HL, HU⟩ := hrel
    by_cases hlt : i < j
    · have hltz : (i : Int) < (j : Int) := by omega
      obtain ⟨hN, hhN⟩ : ∃ q, q = (i + j) / 2 := ⟨_, rfl⟩
      have eh : ((i : Int) + (j : Int)) / 2 = (hN : Int) := by omega
      have ch : i ≤ hN ∧ hN < j := by omega
      have HH : Aside (hN = (i + j) / 2) := hhN
      clear hhN
      go_wp2_with fail
      have pa : (0 : Int) ≤ (hN : Int) := by omega
      have ba : (hN : Int) < (d.size : Int) := by omega
      have ra : IntKind.i64.wrap (hN : Int) = (hN : Int) := by rw [IntKind.wrap_i64]; omega
      have bc : (a : Int) < (d.size : Int) := by have := HAM.out; omega
      obtain ⟨x1, hx1⟩ : ∃ x, x = d[hN]! := ⟨_, rfl⟩
      obtain ⟨y1, hy1⟩ : ∃ x, x = d[a]! := ⟨_, rfl⟩
      have vx : Aside (x1 = ix d hN) := hx1
      have vy : Aside (y1 = ix d a) := hy1
      have lt1 : id y1 < id x1 := by rw [vx.out, vy.out]; exact HA.out a hN (Nat.le_refl _) (by have := HAM.out; omega) (by omega) (by omega)
      have l1a := S1.out.cl R (by omega) hN (by omega)
      have l1b := S1.out.cl R (by omega) a (by have := HAM.out; omega)
      rw [← hx1] at l1a
      rw [← hy1] at l1b
      have hc1 := S1.out.cmp HC.out (by omega) x1 y1
      clear hx1 hy1
      by_cases hlv : cf x1 y1 < 0
      · have hd1 : decide (cf x1 y1 < 0) = true := decide_eq_true hlv
        have HR : Aside (r x1 < r y1) := HK.out.lo _ _ lt1 hlv
        clear lt1
        go_wp2_with fail
        go_quiet_grown (first | (go_at_fn g; refine Calls.grown_of (hc1 _ _)))
        have S2 : Aside (SW enc w0 blk off d (grow (wr.drewN nq) osq)) := S1.out.grown nq osq
        clear l1a l1b hc1 S1
        generalize grow (wr.drewN nq) osq = w2 at S2 ⊢
        clear nq osq hlv hd1
        go_wp2
        go_roundg (j - (hN + 1))
        case measure => omega
        case rel => exact ⟨hN + 1, j, by go_num, rfl, by omega, by omega, hjb, Nat.le_refl _, S2, .inr (by rw [Nat.add_sub_cancel, ← vx.out, ← vy.out]; exact HR.out), HU⟩
      · have hd1 : decide (cf x1 y1 < 0) = false := decide_eq_false hlv
        have HR : Aside (r y1 < r x1) := HK.out.hi _ _ lt1 hlv
        clear lt1
        go_wp2_with fail
        go_quiet_grown (first | (go_at_fn g; refine Calls.grown_of (hc1 _ _)))
        have S2 : Aside (SW enc w0 blk off d (grow (wr.drewN nq) osq)) := S1.out.grown nq osq
        clear l1a l1b hc1 S1
        generalize grow (wr.drewN nq) osq = w2 at S2 ⊢
        clear nq osq hlv hd1
        go_wp2
        go_roundg (hN - i)
        case measure => omega
        case rel => exact ⟨i, hN, rfl, rfl, hmi, by omega, by omega, Nat.le_refl _, S2, HL, .inr (by rw [← vx.out, ← vy.out]; exact HR.out)⟩
    · obtain rfl : j = i := by omega
      go_wp2
      go_loopg [13] j (fun kx s13 wr2 => ∃ (k : Nat) (dk : Array α), s13 = .int .i64 k ∧ a ≤ k ∧ k < j ∧ j - k ≤ kx ∧ dk.size = d.size ∧ Aside (SW enc w0 blk off dk wr2) ∧ Aside (Rot a (a + 1) (k + 1) (ix d) (ix dk)))
      case atStart => exact ⟨a, d, rfl, Nat.le_refl _, by have := HAM.out; omega, by omega, rfl, S1, Rot.none (.inr rfl) _⟩
      case round =>
        clear S1
        obtain ⟨k, dk, rfl, hak, hkj, hk2, hsk, S1, HR⟩ := hrel
        by_cases hkl : k + 1 < j
        · have hklz : (k : Int) < (j : Int) - 1 := by omega
          go_wp2_with fail
          obtain ⟨jN, hjN⟩ : ∃ q, q = k + 1 := ⟨_, rfl⟩
          have pa : (0 : Int) ≤ (k : Int) + 1 := by omega
          have ba : (k : Int) < (d.size : Int) := by omega
          have bc : (k : Int) + 1 < (d.size : Int) := by omega
          have ec : ((k : Int) + 1).toNat = jN := by omega
          have rc : IntKind.i64.wrap ((k : Int) + 1) = (k : Int) + 1 := by rw [IntKind.wrap_i64]; omega
          obtain ⟨x1, hx1⟩ : ∃ x, x = dk[k]! := ⟨_, rfl⟩
          obtain ⟨y1, hy1⟩ : ∃ x, x = dk[jN]! := ⟨_, rfl⟩
          have S3 : Aside (SW enc w0 blk off (swp dk k jN) ((wr.setCell ⟨blk, off + k, none⟩ (enc y1)).setCell ⟨blk, off + jN, none⟩ (enc x1)).drew) := by rw [hx1, hy1]; exact S1.out.swapped R k jN (by omega) (by omega)
          have c1a := S1.out.c1 R (by omega) k (by omega)
          have c1b := S1.out.c1 R (by omega) jN (by omega)
          have f1a := S1.out.f1 R (by omega) k (by omega)
          have f1b := S1.out.f1 R (by omega) jN (by omega)
          obtain ⟨u1, c1c⟩ := S1.out.c2 R (by omega) k jN (by omega) (by omega) (enc y1)
          rw [← hx1] at c1a
          rw [← hy1] at c1b
          have HR' : Aside (Rot a (a + 1) (k + 1 + 1) (ix d) (ix (swp dk k jN))) := by
            refine Rot.up HR.out ?_ hak
            rw [hjN]
            exact swp_ix dk (by omega) (by omega)
          clear S1 hx1 hy1 hjN
          go_wp2_with fail
          go_big_region_o
          clear c1a c1b c1c f1a f1b
          generalize ((wr.setCell ⟨blk, off + k, none⟩ (enc y1)).setCell ⟨blk, off + jN, none⟩ (enc x1)).drew = w3 at S3 ⊢
          clear ec
          go_wp2
          go_roundg (j - (k + 1))
          case measure => omega
          case rel => exact ⟨k + 1, swp dk k jN, by go_num, by omega, by omega, Nat.le_refl _, by rw [size_swp]; exact hsk, S3, HR'⟩
        · have hklz : ¬ (k : Int) < (j : Int) - 1 := by omega
          obtain rfl : j = k + 1 := by omega
          go_wp2
          refine bodyPost_ret (results_none rfl _ _ _) rfl ?_
          have ham := HAM.out
          subst ham
          exact ⟨rfl, dk, S1.out, hsk, Srt.insert0 H2.out HR.out (by omega) hjb HL.out HU.out, (HR.out.same (by omega) (by omega)).mono (Nat.le_refl _) hjb⟩

set_option maxHeartbeats 16000000 in
set_option maxRecDepth 1000000 in
theorem symMerge_second (enc : α → Value) (cf : α → α → Int) (id r : α → Nat) (K : Rnk cf id r) (g : Nat) (cb : Array Value) (blk off cap a m b : Nat) (d0 d : Array α) (w0 w : World)
    (eg : ∀ args w, (callFunc g args).run Try.prog w = .ok (.enter g args) w) (hcmp : CmpLays1 Try.prog g cb enc cf blk off d0.size w0) (R : Row1 enc w0 blk off d0) (hs : d0.size = d.size) (S : SW enc w0 blk off d w) (ham : a + 1 < m) (hmb : m + 1 = b) (hb : b ≤ d.size) (hsz : d.size < 4611686018427387904)
    (S1 : Srt r a m (ix d)) (C : Crs id a m b (ix d)) :
    Calls Try.prog 32 #[.slice (some ⟨blk, off, none⟩) d.size cap, .int .i64 a, .int .i64 m, .int .i64 b, .func (.func g) #[] cb] w fun e w' => e = .returned (.tuple #[]) ∧ ∃ d', SW enc w0 blk off d' w' ∧ d'.size = d.size ∧ Srt r a b (ix d') ∧ Same a b (ix d) (ix d') := by
  have mixed : Try.prog.follows Departure.mixedOrders = true := by kernel_rfl
  have hcl0 := R.hO.cells
  simp only [Value.cells] at hcl0
  have hst := R.hO.store Try.prog
  have HC : Aside _ := hcmp
  have HA : Aside _ := C
  have H1 : Aside _ := S1
  have HK : Aside _ := K
  have S0 : Aside (SW enc w0 blk off d w) := S
  have r1 : IntKind.i64.wrap ((m : Int) - (a : Int)) = (m : Int) - (a : Int) := by rw [IntKind.wrap_i64]; omega
  have e1 : ¬ (m : Int) - (a : Int) = 1 := by omega
  have b1 : ((m : Int) - (a : Int) == 1) = false := by rw [beq_eq_false_iff_ne]; exact e1
  have r2 : IntKind.i64.wrap ((b : Int) - (m : Int)) = 1 := by rw [IntKind.wrap_i64]; omega
  have e2 : (b : Int) - (m : Int) = 1 := by omega
  have HMB : Aside (m + 1 = b) := hmb
  have hmsz : m < d.size := by omega
  clear S hcmp C S1 K hmb
  go_enter Try.func32, Try.ntmps32
  go_wp2
  clear e1 r1 e2 r2 b1
  go_loopg [14, 15] (m - a) (fun kx s14 s15 wr => ∃ (i j : Nat), s14 = .int .i64 i ∧ s15 = .int .i64 j ∧ a ≤ i ∧ i ≤ j ∧ j ≤ m ∧ j - i ≤ kx ∧ Aside (SW enc w0 blk off d wr) ∧ Aside (i = a ∨ r (ix d (i - 1)) < r (ix d m)) ∧ Aside (j = m ∨ r (ix d m) < r (ix d j)))
  case atStart => exact ⟨a, m, rfl, rfl, Nat.le_refl _, by omega, Nat.le_refl _, by omega, S0, .inl rfl, .inl rfl⟩
  case round =>
    clear S0
    obtain ⟨i, j, rfl, rfl, hmi, hij, hjb, hkx, S1, HL, HU⟩ := hrel
    by_cases hlt : i < j
    · have hltz : (i : Int) < (j : Int) := by omega
      obtain ⟨hN, hhN⟩ : ∃ q, q = (i + j) / 2 := ⟨_, rfl⟩
      have eh : ((i : Int) + (j : Int)) / 2 = (hN : Int) := by omega
      have ch : i ≤ hN ∧ hN < j := by omega
      have HH : Aside (hN = (i + j) / 2) := hhN
      clear hhN
      go_wp2_with fail
      have pa : (0 : Int) ≤ (hN : Int) := by omega
      have ba : (hN : Int) < (d.size : Int) := by have := HMB.out; omega
      have ra : IntKind.i64.wrap (hN : Int) = (hN : Int) := by rw [IntKind.wrap_i64]; omega
      have bc : (m : Int) < (d.size : Int) := by have := HMB.out; omega
      obtain ⟨x1, hx1⟩ : ∃ x, x = d[m]! := ⟨_, rfl⟩
      obtain ⟨y1, hy1⟩ : ∃ x, x = d[hN]! := ⟨_, rfl⟩
      have vx : Aside (x1 = ix d m) := hx1
      have vy : Aside (y1 = ix d hN) := hy1
      have lt1 : id y1 < id x1 := by rw [vx.out, vy.out]; exact HA.out hN m (by omega) (by omega) (Nat.le_refl _) (by have := HMB.out; omega)
      have l1a := S1.out.cl R (by omega) m (by have := HMB.out; omega)
      have l1b := S1.out.cl R (by omega) hN (by have := HMB.out; omega)
      rw [← hx1] at l1a
      rw [← hy1] at l1b
      have hc1 := S1.out.cmp HC.out (by omega) x1 y1
      clear hx1 hy1
      by_cases hlv : cf x1 y1 < 0
      · have hd1 : decide (cf x1 y1 < 0) = true := decide_eq_true hlv
        have HR : Aside (r x1 < r y1) := HK.out.lo _ _ lt1 hlv
        clear lt1
        go_wp2_with fail
        go_quiet_grown (first | (go_at_fn g; refine Calls.grown_of (hc1 _ _)))
        have S2 : Aside (SW enc w0 blk off d (grow (wr.drewN nq) osq)) := S1.out.grown nq osq
        clear l1a l1b hc1 S1
        generalize grow (wr.drewN nq) osq = w2 at S2 ⊢
        clear nq osq
        go_wp2
        go_roundg (hN - i)
        case measure => omega
        case rel => exact ⟨i, hN, rfl, rfl, hmi, by omega, by omega, Nat.le_refl _, S2, HL, .inr (by rw [← vx.out, ← vy.out]; exact HR.out)⟩
      · have hd1 : decide (cf x1 y1 < 0) = false := decide_eq_false hlv
        have HR : Aside (r y1 < r x1) := HK.out.hi _ _ lt1 hlv
        clear lt1
        go_wp2_with fail
        go_quiet_grown (first | (go_at_fn g; refine Calls.grown_of (hc1 _ _)))
        have S2 : Aside (SW enc w0 blk off d (grow (wr.drewN nq) osq)) := S1.out.grown nq osq
        clear l1a l1b hc1 S1
        generalize grow (wr.drewN nq) osq = w2 at S2 ⊢
        clear nq osq
        go_wp2
        go_roundg (j - (hN + 1))
        case measure => omega
        case rel => exact ⟨hN + 1, j, by go_num, rfl, by omega, by omega, hjb, Nat.le_refl _, S2, .inr (by rw [Nat.add_sub_cancel, ← vx.out, ← vy.out]; exact HR.out), HU⟩
    · obtain rfl : j = i := by omega
      go_wp2
      go_loopg [17] m (fun kx s17 wr2 => ∃ (k : Nat) (dk : Array α), s17 = .int .i64 k ∧ j ≤ k ∧ k ≤ m ∧ k ≤ kx ∧ dk.size = d.size ∧ Aside (SW enc w0 blk off dk wr2) ∧ Aside (Rot k m (m + 1) (ix d) (ix dk)))
      case atStart => exact ⟨m, d, rfl, hjb, Nat.le_refl _, Nat.le_refl _, rfl, S1, Rot.none (.inl rfl) _⟩
      case round =>
        clear S1
        obtain ⟨k, dk, rfl, hjk, hkm, hk2, hsk, S1, HR⟩ := hrel
        by_cases hkl : j < k
        · obtain ⟨kp, hkp⟩ : ∃ q, q + 1 = k := ⟨k - 1, by omega⟩
          have zkp : (k : Int) = (kp : Int) + 1 := by omega
          have hklz : (j : Int) < (kp : Int) + 1 := by omega
          have hmb := HMB.out
          go_wp2_with fail
          obtain ⟨jN, hjN⟩ : ∃ q, q = k - 1 := ⟨_, rfl⟩
          have ea : ((kp : Int) + 1).toNat = k := by omega
          have pa : (0 : Int) ≤ (kp : Int) + 1 := by omega
          have ba : (kp : Int) + 1 < (d.size : Int) := by omega
          have ra : IntKind.i64.wrap ((kp : Int) + 1) = (kp : Int) + 1 := by rw [IntKind.wrap_i64]; omega
          have ec : ((kp : Int)).toNat = jN := by omega
          have pc : (0 : Int) ≤ (kp : Int) := by omega
          have bc : (kp : Int) < (d.size : Int) := by omega
          have rc : IntKind.i64.wrap ((kp : Int)) = (kp : Int) := by rw [IntKind.wrap_i64]; omega
          obtain ⟨x1, hx1⟩ : ∃ x, x = dk[k]! := ⟨_, rfl⟩
          obtain ⟨y1, hy1⟩ : ∃ x, x = dk[jN]! := ⟨_, rfl⟩
          have S3 : Aside (SW enc w0 blk off (swp dk k jN) ((wr.setCell ⟨blk, off + k, none⟩ (enc y1)).setCell ⟨blk, off + jN, none⟩ (enc x1)).drew) := by rw [hx1, hy1]; exact S1.out.swapped R k jN (by omega) (by omega)
          have c1a := S1.out.c1 R (by omega) k (by omega)
          have c1b := S1.out.c1 R (by omega) jN (by omega)
          have f1a := S1.out.f1 R (by omega) k (by omega)
          have f1b := S1.out.f1 R (by omega) jN (by omega)
          obtain ⟨u1, c1c⟩ := S1.out.c2 R (by omega) k jN (by omega) (by omega) (enc y1)
          rw [← hx1] at c1a
          rw [← hy1] at c1b
          have HR' : Aside (Rot (k - 1) m (m + 1) (ix d) (ix (swp dk k jN))) := by
            refine Rot.down HR.out ?_ (by omega) hkm
            rw [hjN]
            exact swp_ix dk (by omega) (by omega)
          clear S1 hx1 hy1 hjN hmb
          go_wp2_with fail
          go_big_region_o
          clear c1a c1b c1c f1a f1b
          generalize ((wr.setCell ⟨blk, off + k, none⟩ (enc y1)).setCell ⟨blk, off + jN, none⟩ (enc x1)).drew = w3 at S3 ⊢
          clear ea ec
          go_wp2
          go_roundg (k - 1)
          case measure => omega
          case rel => exact ⟨k - 1, swp dk k jN, by first | rfl | go_num | (congr 1; omega), by omega, by omega, Nat.le_refl _, by rw [size_swp]; exact hsk, S3, HR'⟩
        · have hklz : ¬ (j : Int) < (k : Int) := by omega
          obtain rfl : j = k := by omega
          go_wp2
          refine bodyPost_ret (results_none rfl _ _ _) rfl ?_
          have hmb := HMB.out
          subst hmb
          exact ⟨rfl, dk, S1.out, hsk, Srt.insert H1.out HR.out hmi hkm HL.out HU.out, (HR.out.same (by omega) (by omega)).mono hmi (Nat.le_refl _)⟩
end Go.Proofs.Ytfikllghajhigaa

/- The library's exchange of two rows and its rotation, at elements of one cell. Condition: the places lie in the row. -/
import Derived.Test.YtfikllghajhigaaSrtPlain
import Derived.Test.YtfikllghajhigaaChecked
import Derived.Shelf.SlSortCmp.Kit1
import Derived.Sort.LotA
import Derived.Sort.WalkB2
import Derived.Sort.WalkB12
import Derived.Deep.LoopGhost
namespace Go.Proofs.Ytfikllghajhigaa
open Go.Proofs Go.Shelf Go.RowKit Go.Lib Go.Sort
set_option linter.unusedVariables false
variable {α : Type} [Inhabited α]

/-- a row as a function of the place -/
def ix (d : Array α) : Nat → α := fun k => d[k]!
theorem swp_ix (d : Array α) {i j : Nat} (hi : i < d.size) (hj : j < d.size) : Swp1 i j (ix d) (ix (swp d i j)) := fun k => swp_get d hi hj k

set_option maxHeartbeats 4000000 in
set_option maxRecDepth 1000000 in
theorem swapRange_calls (enc : α → Value) (fv : Value) (blk off cap a b n : Nat) (d0 d : Array α) (w0 w : World)
    (R : Row1 enc w0 blk off d0) (hs : d0.size = d.size) (S : SW enc w0 blk off d w) (hab : a + n ≤ b) (hb : b + n ≤ d.size) (hsz : d.size < 4611686018427387904) :
    Calls Try.prog 34 #[.slice (some ⟨blk, off, none⟩) d.size cap, .int .i64 a, .int .i64 b, .int .i64 n, fv] w fun e w' => e = .returned (.tuple #[]) ∧ ∃ d', SW enc w0 blk off d' w' ∧ d'.size = d.size ∧ Swr a b n (ix d) (ix d') := by
  have hcl0 := R.hO.cells
  simp only [Value.cells] at hcl0
  have hst := R.hO.store Try.prog
  have mixed : Try.prog.follows Departure.mixedOrders = true := by kernel_rfl
  have S0 : Aside (SW enc w0 blk off d w) := S
  clear S
  go_enter Try.func34, Try.ntmps34
  go_wp2
  go_loopg [10] n (fun kx s10 wr => ∃ (i : Nat) (dk : Array α), s10 = .int .i64 i ∧ i ≤ n ∧ n - i ≤ kx ∧ dk.size = d.size ∧ Aside (SW enc w0 blk off dk wr) ∧ Aside (Swr a b i (ix d) (ix dk)))
  case atStart => exact ⟨0, d, rfl, Nat.zero_le _, by omega, rfl, S0, Swr.zero a b _⟩
  case round =>
    clear S0
    obtain ⟨i, dk, rfl, hin, hkx, hds, S1, HS⟩ := hrel
    by_cases hlt : i < n
    · have hltz : (i : Int) < (n : Int) := by omega
      go_wp2_with fail
      obtain ⟨iN, hiN⟩ : ∃ q, q = a + i := ⟨_, rfl⟩
      obtain ⟨jN, hjN⟩ : ∃ q, q = b + i := ⟨_, rfl⟩
      have ea : ((a : Int) + (i : Int)).toNat = iN := by omega
      have pa : (0 : Int) ≤ (a : Int) + (i : Int) := by omega
      have ba : (a : Int) + (i : Int) < (d.size : Int) := by omega
      have ra : IntKind.i64.wrap ((a : Int) + (i : Int)) = (a : Int) + (i : Int) := by rw [IntKind.wrap_i64]; omega
      have ec : ((b : Int) + (i : Int)).toNat = jN := by omega
      have pc : (0 : Int) ≤ (b : Int) + (i : Int) := by omega
      have bc : (b : Int) + (i : Int) < (d.size : Int) := by omega
      have rc : IntKind.i64.wrap ((b : Int) + (i : Int)) = (b : Int) + (i : Int) := by rw [IntKind.wrap_i64]; omega
      obtain ⟨x1, hx1⟩ : ∃ x, x = dk[iN]! := ⟨_, rfl⟩
      obtain ⟨y1, hy1⟩ : ∃ x, x = dk[jN]! := ⟨_, rfl⟩
      have S2 : Aside (SW enc w0 blk off (swp dk iN jN) ((wr.setCell ⟨blk, off + iN, none⟩ (enc y1)).setCell ⟨blk, off + jN, none⟩ (enc x1)).drew) := by rw [hx1, hy1]; exact S1.out.swapped R iN jN (by omega) (by omega)
      have c1a := S1.out.c1 R (by omega) iN (by omega)
      have c1b := S1.out.c1 R (by omega) jN (by omega)
      have f1a := S1.out.f1 R (by omega) iN (by omega)
      have f1b := S1.out.f1 R (by omega) jN (by omega)
      obtain ⟨u1, c1c⟩ := S1.out.c2 R (by omega) iN jN (by omega) (by omega) (enc y1)
      rw [← hx1] at c1a
      rw [← hy1] at c1b
      have HS' : Aside (Swr a b (i + 1) (ix d) (ix (swp dk iN jN))) := by
        refine Swr.step HS.out ?_ (by omega)
        have := swp_ix dk (i := iN) (j := jN) (by omega) (by omega)
        rw [hiN, hjN] at this ⊢
        exact this
      clear S1 hx1 hy1 hiN hjN HS
      go_wp2_with fail
      go_big_region_o
      clear c1a c1b c1c f1a f1b
      generalize ((wr.setCell ⟨blk, off + iN, none⟩ (enc y1)).setCell ⟨blk, off + jN, none⟩ (enc x1)).drew = w2 at S2 ⊢
      clear ea ec
      go_wp2
      go_roundg (n - (i + 1))
      case measure => omega
      case rel => exact ⟨i + 1, swp dk iN jN, by simp, by omega, Nat.le_refl _, by rw [size_swp]; exact hds, S2, HS'⟩
    · have hltz : ¬ (i : Int) < (n : Int) := by omega
      have : i = n := by omega
      subst this
      go_wp2
      go_end0
      exact ⟨rfl, dk, S1.out, hds, HS.out⟩

set_option maxHeartbeats 4000000 in
set_option maxRecDepth 1000000 in
theorem rotate_calls (enc : α → Value) (fv : Value) (blk off cap a m b : Nat) (d0 d : Array α) (w0 w : World)
    (R : Row1 enc w0 blk off d0) (hs : d0.size = d.size) (S : SW enc w0 blk off d w) (ham : a < m) (hmb : m < b) (hb : b ≤ d.size) (hsz : d.size < 4611686018427387904) :
    Calls Try.prog 33 #[.slice (some ⟨blk, off, none⟩) d.size cap, .int .i64 a, .int .i64 m, .int .i64 b, fv] w fun e w' => e = .returned (.tuple #[]) ∧ ∃ d', SW enc w0 blk off d' w' ∧ d'.size = d.size ∧ Rot a m b (ix d) (ix d') := by
  have S0 : Aside (SW enc w0 blk off d w) := S
  have R0 : Aside (Row1 enc w0 blk off d0) := R
  have e1 : (m : Int) - (a : Int) = ((m - a : Nat) : Int) := by omega
  have e2 : (b : Int) - (m : Int) = ((b - m : Nat) : Int) := by omega
  have r1 : IntKind.i64.wrap ((m : Int) - (a : Int)) = ((m - a : Nat) : Int) := by rw [IntKind.wrap_i64]; omega
  have r2 : IntKind.i64.wrap ((b : Int) - (m : Int)) = ((b - m : Nat) : Int) := by rw [IntKind.wrap_i64]; omega
  clear S R
  go_enter Try.func33, Try.ntmps33
  go_wp2
  clear r1 r2
  go_loopg [10, 11] (b - a) (fun kx s10 s11 wr => ∃ (i j : Nat) (dk : Array α), s10 = .int .i64 i ∧ s11 = .int .i64 j ∧ 0 < i ∧ 0 < j ∧ i + j ≤ kx ∧ i ≤ m - a ∧ j ≤ b - m ∧ dk.size = d.size ∧ Aside (SW enc w0 blk off dk wr) ∧ Aside (∀ f', Rot (m - i) m (m + j) (ix dk) f' → Rot a m b (ix d) f'))
  case atStart => exact ⟨m - a, b - m, d, rfl, rfl, by omega, by omega, by omega, Nat.le_refl _, Nat.le_refl _, rfl, S0, fun f' h => by rw [show m - (m - a) = a by omega, show m + (b - m) = b by omega] at h; exact h⟩
  case round =>
    clear S0 e1 e2
    obtain ⟨i, j, dk, rfl, rfl, hi0, hj0, hkx, hia, hjb, hds, S1, HR⟩ := hrel
    have q1 : (m : Int) - (i : Int) = ((m - i : Nat) : Int) := by omega
    have w1 : IntKind.i64.wrap ((m : Int) - (i : Int)) = ((m - i : Nat) : Int) := by rw [IntKind.wrap_i64]; omega
    rcases Nat.lt_trichotomy i j with hij | hij | hij
    · have z1 : ¬ (i : Int) = (j : Int) := by omega
      have z2 : ¬ (j : Int) < (i : Int) := by omega
      have q2 : (m : Int) + (j : Int) - (i : Int) = ((m + j - i : Nat) : Int) := by omega
      have q3 : (j : Int) - (i : Int) = ((j - i : Nat) : Int) := by omega
      have C := swapRange_calls enc fv blk off cap (m - i) (m + j - i) i d0 dk w0 wr R0.out (by omega) S1.out (by omega) (by omega) (by omega)
      rw [hds] at C
      clear S1
      go_wp2_with (go_at_call 34; go_loud (refine C.mono ?_); rintro e w2 ⟨rfl, d2, S2, hd2, HW⟩)
      have S3 : Aside (SW enc w0 blk off d2 w2) := S2
      have HW' : Aside (Swr (m - i) (m + j - i) i (ix dk) (ix d2)) := HW
      clear S2 HW C
      go_wp2
      go_roundg (i + (j - i))
      case measure => omega
      case rel => exact ⟨i, j - i, d2, rfl, by go_num, hi0, by omega, Nat.le_refl _, hia, by omega, hd2, S3, fun f' h => HR.out f' (Rot.less HW'.out h hij (by omega))⟩
    · subst hij
      have C := swapRange_calls enc fv blk off cap (m - i) m i d0 dk w0 wr R0.out (by omega) S1.out (by omega) (by omega) (by omega)
      rw [hds] at C
      clear S1
      go_wp2_with (go_at_call 34; go_loud (refine C.mono ?_); rintro e w2 ⟨rfl, d2, S2, hd2, HW⟩)
      go_end0
      exact ⟨rfl, d2, S2, hd2, HR.out _ (Rot.last HW (by omega))⟩
    · have z1 : ¬ (i : Int) = (j : Int) := by omega
      have z2 : (j : Int) < (i : Int) := by omega
      have q3 : (i : Int) - (j : Int) = ((i - j : Nat) : Int) := by omega
      have C := swapRange_calls enc fv blk off cap (m - i) m j d0 dk w0 wr R0.out (by omega) S1.out (by omega) (by omega) (by omega)
      rw [hds] at C
      clear S1
      go_wp2_with (go_at_call 34; go_loud (refine C.mono ?_); rintro e w2 ⟨rfl, d2, S2, hd2, HW⟩)
      have S3 : Aside (SW enc w0 blk off d2 w2) := S2
      have HW' : Aside (Swr (m - i) m j (ix dk) (ix d2)) := HW
      clear S2 HW C
      go_wp2
      go_roundg (i - j + j)
      case measure => omega
      case rel => exact ⟨i - j, j, d2, by go_num, rfl, by omega, hj0, Nat.le_refl _, by omega, hjb, hd2, S3, fun f' h => HR.out f' (Rot.more HW'.out h hij (by omega))⟩
end Go.Proofs.Ytfikllghajhigaa

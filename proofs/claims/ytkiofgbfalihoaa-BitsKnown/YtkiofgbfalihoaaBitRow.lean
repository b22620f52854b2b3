/- Bits as they are written. Condition: at most 2^20 characters. -/
import Derived.Test.YtkiofgbfalihoaaBitNum
namespace Go.Proofs.Ytkiofgbfalihoaa
open Go.RowKit
open Bit
set_option linter.unusedVariables false

/-- the bits that are written so -/
def rowOf (x : List UInt8) : List UInt8 := x.map (· - 48)
theorem rowOf_len (x : List UInt8) : (rowOf x).length = x.length := by simp [rowOf]
theorem rowOf_snoc (x : List UInt8) (k : Nat) (hk : k < x.length) : rowOf (x.take (k + 1)) = rowOf (x.take k) ++ [x[k] - 48] := by
  unfold rowOf
  rw [List.take_succ_eq_append_getElem hk, List.map_append]
  rfl
theorem sub48 (x : UInt8) : ((x.toNat : Int) - 48) % 256 = ((x - 48).toNat : Int) := by
  have : ∀ n : Fin 256, (((UInt8.ofNat n.val).toNat : Int) - 48) % 256 = (((UInt8.ofNat n.val) - 48).toNat : Int) := by decide +kernel
  have h := this ⟨x.toNat, x.toNat_lt⟩
  simpa using h
set_option maxHeartbeats 1000000 in
theorem row_calls (x : List UInt8) (w : World) (hx : x.length ≤ 1048576) :
    Calls Try.prog 18 #[.string ⟨x.toArray⟩] w (GivesOwn (rowOf x) w) := by
  go_enter Try.func18, Try.ntmps18
  go_wp2
  go_loopw [3, 4] (fun v i wr => ∃ (k : Nat) (B : Option Addr) (d : Nat) (acc : List UInt8), k ≤ x.length ∧ i = .int .i64 k ∧ v = .slice B acc.length d ∧ Own wr w.heap.size B d acc ∧ Below w.heap.size w wr ∧ acc.length ≤ 1048576 ∧ acc = rowOf (x.take k)) (fun _ i _ => x.length - (intOf i).toNat)
  case atStart => exact ⟨0, none, 0, [], Nat.zero_le _, rfl, rfl, Own.nil _ _, Below.refl _ _, Nat.zero_le _, rfl⟩
  case round =>
    obtain ⟨k, B, d, acc, hk, rfl, rfl, own, bel, hal, hacc⟩ := hrel
    by_cases hlt : k < x.length
    · have hsn := Lib.hid (rowOf_snoc x k hlt)
      rw [← hacc] at hsn
      obtain ⟨A2, c2, w2, run, own2, bel2⟩ := app_new wr w.heap.size B d acc [x[k] - 48] own bel.size (by simp; omega)
      have bel3 := bel.trans bel2
      have hs := sub48 x[k]
      have hn : (acc ++ [x[k] - 48]).length ≤ 1048576 := by rw [← hsn.out, rowOf_len]; simp; omega
      have he : (⟨x.toArray⟩ : ByteArray)[k]'(by simpa [ByteArray.size] using hlt) = x[k] := rfl
      clear hacc own
      generalize x[k] = y at hsn run own2 hs hn he
      generalize y - 48 = z at hsn run own2 hs hn
      generalize acc ++ [z] = acc2 at hsn run own2 hn
      go_wp2_with (at_builtin; refine Lib.wpList_append_run _ rfl _ _ _ _ rfl _ _ rfl rfl _ _ (run _) ?_)
      go_roundw
      case rel => exact ⟨k + 1, A2, c2, acc2, by omega, by go_num, rfl, own2, bel3, hn, hsn.out.symm⟩
      case measure => simp [intOf]; omega
    · have HA : Hid (acc = rowOf x) := Lib.hid (by rw [hacc, List.take_of_length_le (by omega)])
      clear hacc
      go_wp2
      go_ret
      exact ⟨B, d, by rw [HA.out]; rfl, by rw [← HA.out]; exact own, bel⟩
end Go.Proofs.Ytkiofgbfalihoaa

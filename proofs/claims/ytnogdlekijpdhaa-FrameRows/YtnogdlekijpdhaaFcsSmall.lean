/- The small callees. -/
import Derived.Test.YtnogdlekijpdhaaCrcWalk
import Derived.Test.YtnogdlekijpdhaaBytesNew
namespace Go.Proofs.Ytnogdlekijpdhaa
open Go.RowKit
open Fcs
set_option linter.unusedVariables false

theorem size_calls (wide : Bool) (w : World) : Calls Try.prog 36 #[.bool wide] w fun e w' => e = .returned (.int .i64 (if wide then 4 else 2)) ∧ w = w' := by
  cases wide
  all_goals
    go_enter Try.func36, Try.ntmps36
    go_wp2
    go_ret
    exact ⟨rfl, rfl⟩
theorem tail_calls (wide : Bool) (w : World) : Calls Try.prog 23 #[.bool wide] w fun e w' => e = .returned (.int .i64 (if wide then 4 else 2)) ∧ w = w' := by
  cases wide
  all_goals
    go_enter Try.func23, Try.ntmps23
    go_wp2
    go_ret
    exact ⟨rfl, rfl⟩
theorem make_run (n : Nat) (hn : n ≤ 1048576) (W : World) : (Instr.makeSlice 22 (.int .i64 (n : Int)) (.int .i64 (n : Int))).run Try.prog W = .ok (.slice (some ⟨W.heap.size, 0, none⟩) n n) (W.alloc (.cells (madeCells #[.int .u8 0] n) 5)) := by
  obtain ⟨i0, hi, hz0, hz1, hz2⟩ := info_parts info8
  have h := run_make (P := Try.prog) W 22 5 i0 _ Try.underlying22 hi hz0 .i64 .i64 n n (by omega) (by omega) (by rw [hz2]; omega) (by omega)
  rw [hz1] at h
  simpa [Value.cells] using h

theorem made2 : madeCells #[.int .u8 0] 2 = #[.int .u8 0, .int .u8 0] := by
  apply Array.ext
  · simp [madeCells]
  · intro i h1 h2
    simp [madeCells, Nat.mod_one]
    simp at h2
    match i, h2 with
    | 0, _ => rfl
    | 1, _ => rfl
theorem made4 : madeCells #[.int .u8 0] 4 = #[.int .u8 0, .int .u8 0, .int .u8 0, .int .u8 0] := by
  apply Array.ext
  · simp [madeCells]
  · intro i h1 h2
    simp [madeCells, Nat.mod_one]
    simp at h2
    match i, h2 with
    | 0, _ => rfl
    | 1, _ => rfl
    | 2, _ => rfl
    | 3, _ => rfl

theorem bv_lo {n : Nat} (x : BitVec n) : bv (lo x) = .int .u8 ((x.toNat : Int) % 256) := by
  unfold bv lo
  refine val_int ?_
  simp
theorem bv_lo8 {n : Nat} (x : BitVec n) (k d : Nat) (hd : d = 2 ^ k) : bv (lo (x >>> k)) = .int .u8 ((x.toNat : Int) / (d : Int) % 256) := by
  rw [bv_lo]
  refine val_int ?_
  subst hd
  simp [Nat.shiftRight_eq_div_pow]
theorem row2 {n : Nat} (x : BitVec n) : ((le 2 x).map bv).toArray = #[.int .u8 ((x.toNat : Int) % 256), .int .u8 ((x.toNat : Int) / 256 % 256)] := by
  simp only [le, List.map_cons, List.map_nil]
  rw [bv_lo, bv_lo8 x 8 256 rfl]
  rfl
theorem row4 (x : BitVec 32) : ((le 4 x).map bv).toArray = #[.int .u8 ((x.toNat : Int) % 256), .int .u8 ((x.toNat : Int) / 256 % 256), .int .u8 ((x.toNat : Int) / 65536 % 256), .int .u8 ((x.toNat : Int) / 16777216)] := by
  have h8 := x.isLt
  have h9 : (x.toNat : Int) / 16777216 % 256 = (x.toNat : Int) / 16777216 := by omega
  simp only [le, List.map_cons, List.map_nil, ← BitVec.shiftRight_add]
  rw [bv_lo, bv_lo8 x 8 256 rfl, bv_lo8 x (8 + 8) 65536 rfl, bv_lo8 x (8 + 8 + 8) 16777216 rfl]
  rw [show ((16777216 : Nat) : Int) = 16777216 from rfl, h9]
  rfl

theorem le2_calls (x : BitVec 32) (v : Int) (hv : v = (x.toNat : Int)) (w : World) : Calls Try.prog 39 #[.int .u32 v, .int .i64 2] w fun e w' => e = .returned (.slice (some ⟨w.heap.size, 0, none⟩) 2 2) ∧ laid w (le 2 x) = w' := by
  have hm : ∀ W : World, (Instr.makeSlice 22 (.int .i64 2) (.int .i64 2)).run Try.prog W = .ok (.slice (some ⟨W.heap.size, 0, none⟩) 2 2) (W.alloc (.cells #[.int .u8 0, .int .u8 0] 5)) := fun W => (make_run 2 (by omega) W).trans (by rw [made2])
  subst hv
  unfold laid
  rw [row2]
  go_enter Try.func39, Try.ntmps39
  go_wp2
  refine wp_loop_rounds 3 ?_
  rw [rounds_succ]
  go_wp2
  rw [rounds_succ]
  go_wp2
  rw [rounds_succ]
  go_wp2
  go_ret
  exact ⟨rfl, rfl⟩
theorem le4_calls (x : BitVec 32) (v : Int) (hv : v = (x.toNat : Int)) (w : World) : Calls Try.prog 39 #[.int .u32 v, .int .i64 4] w fun e w' => e = .returned (.slice (some ⟨w.heap.size, 0, none⟩) 4 4) ∧ laid w (le 4 x) = w' := by
  have hm : ∀ W : World, (Instr.makeSlice 22 (.int .i64 4) (.int .i64 4)).run Try.prog W = .ok (.slice (some ⟨W.heap.size, 0, none⟩) 4 4) (W.alloc (.cells #[.int .u8 0, .int .u8 0, .int .u8 0, .int .u8 0] 5)) := fun W => (make_run 4 (by omega) W).trans (by rw [made4])
  subst hv
  unfold laid
  rw [row4]
  go_enter Try.func39, Try.ntmps39
  go_wp2
  refine wp_loop_rounds 5 ?_
  rw [rounds_succ]
  go_wp2
  rw [rounds_succ]
  go_wp2
  rw [rounds_succ]
  go_wp2
  rw [rounds_succ]
  go_wp2
  rw [rounds_succ]
  go_wp2
  go_ret
  exact ⟨rfl, rfl⟩

/-- the sum, in its order -/
def sumB (wide : Bool) (l : List UInt8) : List UInt8 := if wide then le 4 (crc p32 l) else le 2 (crc p16 l)
def sumN (wide : Bool) : Nat := if wide then 4 else 2
theorem sumB_len (wide : Bool) (l : List UInt8) : (sumB wide l).length = sumN wide := by cases wide <;> simp [sumB, sumN, le_len]
theorem le_wide (x : BitVec 16) : le 2 (x.setWidth 32) = le 2 x := by
  have h8 : x.toNat < 65536 := x.isLt
  have h9 : (x.setWidth 32).toNat = x.toNat := by simp; omega
  have e1 : lo (x.setWidth 32) = lo x := by
    unfold lo
    congr 1
  have e2 : lo (x.setWidth 32 >>> 8) = lo (x >>> 8) := by
    unfold lo
    congr 1
  simp only [le, e1, e2]

theorem checksum_calls (wide : Bool) (A : Option Addr) (c : Nat) (l : List UInt8) (w : World) (hr : Rd w A l) (hl : l.length ≤ maxLen) :
    Calls Try.prog 33 #[.slice A l.length c, .bool wide] w fun e w' => e = .returned (.slice (some ⟨w.heap.size, 0, none⟩) (sumN wide) (sumN wide)) ∧ laid w (sumB wide l) = w' := by
  cases wide
  · have hw : ((crc p16 l).toNat : Int) = (((crc p16 l).setWidth 32).toNat : Int) := by
      have h8 : (crc p16 l).toNat < 65536 := (crc p16 l).isLt
      simp
      omega
    have hs : sumB false l = le 2 ((crc p16 l).setWidth 32) := by rw [le_wide]; rfl
    have HW := Lib.hid hw
    have HS := Lib.hid hs
    clear hw hs
    go_enter Try.func33, Try.ntmps33
    go_wp2_with fail
    refine (short_calls A c l w hr hl).mono ?_
    rintro e w' ⟨rfl, rfl⟩
    unfold b16
    go_wp2_with fail
    with_reducible refine (le2_calls ((crc p16 l).setWidth 32) _ HW.out w).mono ?_
    rintro e w' ⟨rfl, rfl⟩
    go_wp2
    go_ret
    exact ⟨rfl, by rw [HS.out]⟩
  · go_enter Try.func33, Try.ntmps33
    go_wp2_with fail
    refine (long_calls A c l w hr hl).mono ?_
    rintro e w' ⟨rfl, rfl⟩
    go_wp2_with fail
    unfold b32
    with_reducible refine (le4_calls (crc p32 l) _ rfl w).mono ?_
    rintro e w' ⟨rfl, rfl⟩
    go_wp2
    go_ret
    exact ⟨rfl, rfl⟩
end Go.Proofs.Ytnogdlekijpdhaa

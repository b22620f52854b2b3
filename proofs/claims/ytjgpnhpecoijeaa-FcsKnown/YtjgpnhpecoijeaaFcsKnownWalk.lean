/- The law FcsKnown, walked. No condition. -/
import Derived.Test.YtjgpnhpecoijeaaFcsChecksWalk
import Derived.Lib.ConvBytes
namespace Go.Proofs.Ytjgpnhpecoijeaa
open Go.RowKit
open Fcs
set_option linter.unusedVariables false

theorem FcsKnown_far (a : Int) (w : World) (h : a < 0 ∨ 4 ≤ a) :
    Calls Try.prog 8 #[.int .i64 a] w fun e w' => e = .returned (.bool true) ∧ Below w.heap.size w w' := by
  have hb := aliveW_below w
  obtain ⟨W, hW⟩ : ∃ W, W = laidM (laidM w dg) dg := ⟨_, rfl⟩
  rw [← hW] at hb
  have ha := alive_calls w
  rw [← hW] at ha
  clear hW
  rcases h with h | h
  · go_enter Try.func8, Try.ntmps8
    go_wp2_with fail
    refine ha.mono ?_
    rintro e w' ⟨rfl, rfl⟩
    clear ha
    go_wp2
    go_ret
    refine ⟨rfl, hb.trans ?_⟩
    have z := hb.size
    exact ((((Below.refl w.heap.size W).alloc z _).alloc (by simp; omega) _).alloc (by simp; omega) _)
  · have h0 : ¬ a < 0 := by omega
    go_enter Try.func8, Try.ntmps8
    go_wp2_with fail
    refine ha.mono ?_
    rintro e w' ⟨rfl, rfl⟩
    clear ha
    go_wp2
    go_ret
    refine ⟨rfl, hb.trans ?_⟩
    have z := hb.size
    exact ((((Below.refl w.heap.size W).alloc z _).alloc (by simp; omega) _).alloc (by simp; omega) _)


theorem bw_below (w : World) (s : ByteArray) : Below w.heap.size w (Lib.bytesWorld w 5 s) :=
  ⟨rfl, rfl, rfl, by rw [Lib.bytesWorld_size]; omega, fun k hk => Lib.bytesWorld_at_old w 5 s k hk⟩
theorem bw_rd (w : World) (l : List UInt8) : Rd (Lib.bytesWorld w 5 ⟨l.toArray⟩) (some ⟨w.heap.size, 0, none⟩) l := fun _ => ⟨_, _, rfl, fun j hj => by
  rw [Nat.zero_add, Lib.bytesWorld_cell w 5 ⟨l.toArray⟩ j (by simpa [ByteArray.size] using hj)]
  rfl⟩
def Three (w : World) (z : Nat) (j : Nat) (l : List UInt8) (x : BitVec 16) (y : BitVec 32) : Prop :=
  w.cell? ⟨z, j, none⟩ = some (.string ⟨l.toArray⟩) ∧ w.cell? ⟨z + 1, j, none⟩ = some (.int .u16 (x.toNat : Int)) ∧ w.cell? ⟨z + 1 + 1, j, none⟩ = some (.int .u32 (y.toNat : Int))
theorem Three.below {w w' : World} {z j : Nat} {l : List UInt8} {x : BitVec 16} {y : BitVec 32} (h : Three w z j l x y) (hb : Below w.heap.size w w') : Three w' z j l x y :=
  ⟨(hb.cell (World.block_lt_of_cell? w _ h.1)).trans h.1, (hb.cell (World.block_lt_of_cell? w _ h.2.1)).trans h.2.1, (hb.cell (World.block_lt_of_cell? w _ h.2.2)).trans h.2.2⟩
/-- the three tables -/
def tabs (W : World) : World := ((W.alloc (.cells #[.string ⟨#[49, 50, 51, 52, 53, 54, 55, 56, 57]⟩, .string ⟨#[]⟩, .string ⟨#[0]⟩, .string ⟨#[97]⟩] 9)).alloc (.cells #[.int .u16 36974, .int .u16 0, .int .u16 61560, .int .u16 33527] 28)).alloc (.cells #[.int .u32 3421780262, .int .u32 0, .int .u32 3523407757, .int .u32 3904355907] 30)
theorem tabs_below (W : World) : Below W.heap.size W (tabs W) := (((Below.refl W.heap.size W).alloc (Nat.le_refl _) _).alloc (by simp) _).alloc (by simp; omega) _

theorem tabs_0 (W : World) : Three (tabs W) W.heap.size 0 [49, 50, 51, 52, 53, 54, 55, 56, 57] (crc p16 [49, 50, 51, 52, 53, 54, 55, 56, 57]) (crc p32 [49, 50, 51, 52, 53, 54, 55, 56, 57]) := by
  have e1 : crc p16 [49, 50, 51, 52, 53, 54, 55, 56, 57] = 36974#16 := by decide +kernel
  have e2 : crc p32 [49, 50, 51, 52, 53, 54, 55, 56, 57] = 3421780262#32 := by decide +kernel
  rw [e1, e2]
  unfold tabs
  refine ⟨?_, ?_, ?_⟩
  · go_simp
    done
  · go_simp
    done
  · go_simp
    done
set_option maxHeartbeats 1000000 in
theorem FcsKnown_0 (w : World) :
    Calls Try.prog 8 #[.int .i64 0] w fun e w' => e = .returned (.bool true) ∧ Below w.heap.size w w' := by
  have hb := aliveW_below w
  obtain ⟨W, hW⟩ : ∃ W, W = laidM (laidM w dg) dg := ⟨_, rfl⟩
  rw [← hW] at hb
  have ha := alive_calls w
  rw [← hW] at ha
  clear hW
  have tb := tabs_0 W
  have bt := tabs_below W
  have k0 : Three (tabs W).drew W.heap.size 0 [49, 50, 51, 52, 53, 54, 55, 56, 57] (crc p16 [49, 50, 51, 52, 53, 54, 55, 56, 57]) (crc p32 [49, 50, 51, 52, 53, 54, 55, 56, 57]) := tb
  have k1 := k0.below (bw_below (tabs W).drew ⟨#[49, 50, 51, 52, 53, 54, 55, 56, 57]⟩)
  have k2 := k1.below (bw_below _ ⟨#[49, 50, 51, 52, 53, 54, 55, 56, 57]⟩)
  have s1 : Calls Try.prog 12 #[.slice (some ⟨(tabs W).heap.size, 0, none⟩) 9 (grownCap (tabs W).drew 9 0 5)] (Lib.bytesWorld (tabs W).drew 5 ⟨#[49, 50, 51, 52, 53, 54, 55, 56, 57]⟩) fun e w' => e = .returned (b16 (crc p16 [49, 50, 51, 52, 53, 54, 55, 56, 57])) ∧ Lib.bytesWorld (tabs W).drew 5 ⟨#[49, 50, 51, 52, 53, 54, 55, 56, 57]⟩ = w' := short_calls (some ⟨(tabs W).heap.size, 0, none⟩) (grownCap (tabs W).drew 9 0 5) [49, 50, 51, 52, 53, 54, 55, 56, 57] _ (bw_rd (tabs W).drew [49, 50, 51, 52, 53, 54, 55, 56, 57]) (by decide)
  have s2 : Calls Try.prog 14 #[.slice (some ⟨(Lib.bytesWorld (tabs W).drew 5 ⟨#[49, 50, 51, 52, 53, 54, 55, 56, 57]⟩).heap.size, 0, none⟩) 9 (grownCap (Lib.bytesWorld (tabs W).drew 5 ⟨#[49, 50, 51, 52, 53, 54, 55, 56, 57]⟩) 9 0 5)] (Lib.bytesWorld (Lib.bytesWorld (tabs W).drew 5 ⟨#[49, 50, 51, 52, 53, 54, 55, 56, 57]⟩) 5 ⟨#[49, 50, 51, 52, 53, 54, 55, 56, 57]⟩) fun e w' => e = .returned (b32 (crc p32 [49, 50, 51, 52, 53, 54, 55, 56, 57])) ∧ Lib.bytesWorld (Lib.bytesWorld (tabs W).drew 5 ⟨#[49, 50, 51, 52, 53, 54, 55, 56, 57]⟩) 5 ⟨#[49, 50, 51, 52, 53, 54, 55, 56, 57]⟩ = w' := long_calls _ (grownCap (Lib.bytesWorld (tabs W).drew 5 ⟨#[49, 50, 51, 52, 53, 54, 55, 56, 57]⟩) 9 0 5) [49, 50, 51, 52, 53, 54, 55, 56, 57] _ (bw_rd (Lib.bytesWorld (tabs W).drew 5 ⟨#[49, 50, 51, 52, 53, 54, 55, 56, 57]⟩) [49, 50, 51, 52, 53, 54, 55, 56, 57]) (by decide)
  have bl : Below W.heap.size W (Lib.bytesWorld (Lib.bytesWorld (tabs W).drew 5 ⟨#[49, 50, 51, 52, 53, 54, 55, 56, 57]⟩) 5 ⟨#[49, 50, 51, 52, 53, 54, 55, 56, 57]⟩) := (bt.drew.trans ((bw_below (tabs W).drew ⟨#[49, 50, 51, 52, 53, 54, 55, 56, 57]⟩).mono bt.size)).trans ((bw_below _ ⟨#[49, 50, 51, 52, 53, 54, 55, 56, 57]⟩).mono (by rw [Lib.bytesWorld_size]; exact Nat.le_succ_of_le bt.size))
  have hcv : ∀ v : World, (convert 9 22 (.string ⟨#[49, 50, 51, 52, 53, 54, 55, 56, 57]⟩)).run Try.prog v = .ok (.slice (some ⟨v.heap.size, 0, none⟩) 9 (grownCap v 9 0 5)) (Lib.bytesWorld v 5 ⟨#[49, 50, 51, 52, 53, 54, 55, 56, 57]⟩) := fun v =>
    Lib.run_convert_string_bytes (P := Try.prog) v 9 22 5 ⟨#[49, 50, 51, 52, 53, 54, 55, 56, 57]⟩ Try.underlying9 Try.underlying22 Try.underlying5
  unfold Three at k0 k1 k2
  unfold b16 at s1
  unfold b32 at s2
  clear tb
  generalize crc p16 [49, 50, 51, 52, 53, 54, 55, 56, 57] = x at k0 k1 k2 s1
  generalize crc p32 [49, 50, 51, 52, 53, 54, 55, 56, 57] = y at k0 k1 k2 s2
  have K0 := Lib.hid k0
  have K1 := Lib.hid k1
  have K2 := Lib.hid k2
  clear k0 k1 k2
  go_enter Try.func8, Try.ntmps8
  go_wp2_with fail
  refine ha.mono ?_
  rintro e w' ⟨rfl, rfl⟩
  clear ha
  go_wp2_with fail
  change Code.wp _ _ _ _ (tabs W)
  go_region_held (fun w' => w'.cell? ⟨W.heap.size, 0, none⟩ = some (.string ⟨#[49, 50, 51, 52, 53, 54, 55, 56, 57]⟩) ∧ w'.cell? ⟨W.heap.size + 1, 0, none⟩ = some (.int .u16 (x.toNat : Int)) ∧ w'.cell? ⟨W.heap.size + 1 + 1, 0, none⟩ = some (.int .u32 (y.toNat : Int))) (first | exact K0.out | exact K1.out | exact K2.out)
    (first | (go_at_call 12; (with_reducible refine s1.mono ?_); rintro e w' ⟨rfl, rfl⟩) | (go_at_call 14; (with_reducible refine s2.mono ?_); rintro e w' ⟨rfl, rfl⟩))
  go_wp2
  go_ret
  exact ⟨rfl, hb.trans (bl.mono hb.size)⟩

theorem tabs_1 (W : World) : Three (tabs W) W.heap.size 1 [] (crc p16 []) (crc p32 []) := by
  have e1 : crc p16 [] = 0#16 := by decide +kernel
  have e2 : crc p32 [] = 0#32 := by decide +kernel
  rw [e1, e2]
  unfold tabs
  refine ⟨?_, ?_, ?_⟩
  · go_simp
    done
  · go_simp
    done
  · go_simp
    done
set_option maxHeartbeats 1000000 in
theorem FcsKnown_1 (w : World) :
    Calls Try.prog 8 #[.int .i64 1] w fun e w' => e = .returned (.bool true) ∧ Below w.heap.size w w' := by
  have hb := aliveW_below w
  obtain ⟨W, hW⟩ : ∃ W, W = laidM (laidM w dg) dg := ⟨_, rfl⟩
  rw [← hW] at hb
  have ha := alive_calls w
  rw [← hW] at ha
  clear hW
  have tb := tabs_1 W
  have bt := tabs_below W
  have k0 : Three (tabs W).drew W.heap.size 1 [] (crc p16 []) (crc p32 []) := tb
  have k1 := k0.below (bw_below (tabs W).drew ⟨#[]⟩)
  have k2 := k1.below (bw_below _ ⟨#[]⟩)
  have s1 : Calls Try.prog 12 #[.slice (some ⟨(tabs W).heap.size, 0, none⟩) 0 (grownCap (tabs W).drew 0 0 5)] (Lib.bytesWorld (tabs W).drew 5 ⟨#[]⟩) fun e w' => e = .returned (b16 (crc p16 [])) ∧ Lib.bytesWorld (tabs W).drew 5 ⟨#[]⟩ = w' := short_calls (some ⟨(tabs W).heap.size, 0, none⟩) (grownCap (tabs W).drew 0 0 5) [] _ (bw_rd (tabs W).drew []) (by decide)
  have s2 : Calls Try.prog 14 #[.slice (some ⟨(Lib.bytesWorld (tabs W).drew 5 ⟨#[]⟩).heap.size, 0, none⟩) 0 (grownCap (Lib.bytesWorld (tabs W).drew 5 ⟨#[]⟩) 0 0 5)] (Lib.bytesWorld (Lib.bytesWorld (tabs W).drew 5 ⟨#[]⟩) 5 ⟨#[]⟩) fun e w' => e = .returned (b32 (crc p32 [])) ∧ Lib.bytesWorld (Lib.bytesWorld (tabs W).drew 5 ⟨#[]⟩) 5 ⟨#[]⟩ = w' := long_calls _ (grownCap (Lib.bytesWorld (tabs W).drew 5 ⟨#[]⟩) 0 0 5) [] _ (bw_rd (Lib.bytesWorld (tabs W).drew 5 ⟨#[]⟩) []) (by decide)
  have bl : Below W.heap.size W (Lib.bytesWorld (Lib.bytesWorld (tabs W).drew 5 ⟨#[]⟩) 5 ⟨#[]⟩) := (bt.drew.trans ((bw_below (tabs W).drew ⟨#[]⟩).mono bt.size)).trans ((bw_below _ ⟨#[]⟩).mono (by rw [Lib.bytesWorld_size]; exact Nat.le_succ_of_le bt.size))
  have hcv : ∀ v : World, (convert 9 22 (.string ⟨#[]⟩)).run Try.prog v = .ok (.slice (some ⟨v.heap.size, 0, none⟩) 0 (grownCap v 0 0 5)) (Lib.bytesWorld v 5 ⟨#[]⟩) := fun v =>
    Lib.run_convert_string_bytes (P := Try.prog) v 9 22 5 ⟨#[]⟩ Try.underlying9 Try.underlying22 Try.underlying5
  unfold Three at k0 k1 k2
  unfold b16 at s1
  unfold b32 at s2
  clear tb
  generalize crc p16 [] = x at k0 k1 k2 s1
  generalize crc p32 [] = y at k0 k1 k2 s2
  have K0 := Lib.hid k0
  have K1 := Lib.hid k1
  have K2 := Lib.hid k2
  clear k0 k1 k2
  go_enter Try.func8, Try.ntmps8
  go_wp2_with fail
  refine ha.mono ?_
  rintro e w' ⟨rfl, rfl⟩
  clear ha
  go_wp2_with fail
  change Code.wp _ _ _ _ (tabs W)
  go_region_held (fun w' => w'.cell? ⟨W.heap.size, 1, none⟩ = some (.string ⟨#[]⟩) ∧ w'.cell? ⟨W.heap.size + 1, 1, none⟩ = some (.int .u16 (x.toNat : Int)) ∧ w'.cell? ⟨W.heap.size + 1 + 1, 1, none⟩ = some (.int .u32 (y.toNat : Int))) (first | exact K0.out | exact K1.out | exact K2.out)
    (first | (go_at_call 12; (with_reducible refine s1.mono ?_); rintro e w' ⟨rfl, rfl⟩) | (go_at_call 14; (with_reducible refine s2.mono ?_); rintro e w' ⟨rfl, rfl⟩))
  go_wp2
  go_ret
  exact ⟨rfl, hb.trans (bl.mono hb.size)⟩

theorem tabs_2 (W : World) : Three (tabs W) W.heap.size 2 [0] (crc p16 [0]) (crc p32 [0]) := by
  have e1 : crc p16 [0] = 61560#16 := by decide +kernel
  have e2 : crc p32 [0] = 3523407757#32 := by decide +kernel
  rw [e1, e2]
  unfold tabs
  refine ⟨?_, ?_, ?_⟩
  · go_simp
    done
  · go_simp
    done
  · go_simp
    done
set_option maxHeartbeats 1000000 in
theorem FcsKnown_2 (w : World) :
    Calls Try.prog 8 #[.int .i64 2] w fun e w' => e = .returned (.bool true) ∧ Below w.heap.size w w' := by
  have hb := aliveW_below w
  obtain ⟨W, hW⟩ : ∃ W, W = laidM (laidM w dg) dg := ⟨_, rfl⟩
  rw [← hW] at hb
  have ha := alive_calls w
  rw [← hW] at ha
  clear hW
  have tb := tabs_2 W
  have bt := tabs_below W
  have k0 : Three (tabs W).drew W.heap.size 2 [0] (crc p16 [0]) (crc p32 [0]) := tb
  have k1 := k0.below (bw_below (tabs W).drew ⟨#[0]⟩)
  have k2 := k1.below (bw_below _ ⟨#[0]⟩)
  have s1 : Calls Try.prog 12 #[.slice (some ⟨(tabs W).heap.size, 0, none⟩) 1 (grownCap (tabs W).drew 1 0 5)] (Lib.bytesWorld (tabs W).drew 5 ⟨#[0]⟩) fun e w' => e = .returned (b16 (crc p16 [0])) ∧ Lib.bytesWorld (tabs W).drew 5 ⟨#[0]⟩ = w' := short_calls (some ⟨(tabs W).heap.size, 0, none⟩) (grownCap (tabs W).drew 1 0 5) [0] _ (bw_rd (tabs W).drew [0]) (by decide)
  have s2 : Calls Try.prog 14 #[.slice (some ⟨(Lib.bytesWorld (tabs W).drew 5 ⟨#[0]⟩).heap.size, 0, none⟩) 1 (grownCap (Lib.bytesWorld (tabs W).drew 5 ⟨#[0]⟩) 1 0 5)] (Lib.bytesWorld (Lib.bytesWorld (tabs W).drew 5 ⟨#[0]⟩) 5 ⟨#[0]⟩) fun e w' => e = .returned (b32 (crc p32 [0])) ∧ Lib.bytesWorld (Lib.bytesWorld (tabs W).drew 5 ⟨#[0]⟩) 5 ⟨#[0]⟩ = w' := long_calls _ (grownCap (Lib.bytesWorld (tabs W).drew 5 ⟨#[0]⟩) 1 0 5) [0] _ (bw_rd (Lib.bytesWorld (tabs W).drew 5 ⟨#[0]⟩) [0]) (by decide)
  have bl : Below W.heap.size W (Lib.bytesWorld (Lib.bytesWorld (tabs W).drew 5 ⟨#[0]⟩) 5 ⟨#[0]⟩) := (bt.drew.trans ((bw_below (tabs W).drew ⟨#[0]⟩).mono bt.size)).trans ((bw_below _ ⟨#[0]⟩).mono (by rw [Lib.bytesWorld_size]; exact Nat.le_succ_of_le bt.size))
  have hcv : ∀ v : World, (convert 9 22 (.string ⟨#[0]⟩)).run Try.prog v = .ok (.slice (some ⟨v.heap.size, 0, none⟩) 1 (grownCap v 1 0 5)) (Lib.bytesWorld v 5 ⟨#[0]⟩) := fun v =>
    Lib.run_convert_string_bytes (P := Try.prog) v 9 22 5 ⟨#[0]⟩ Try.underlying9 Try.underlying22 Try.underlying5
  unfold Three at k0 k1 k2
  unfold b16 at s1
  unfold b32 at s2
  clear tb
  generalize crc p16 [0] = x at k0 k1 k2 s1
  generalize crc p32 [0] = y at k0 k1 k2 s2
  have K0 := Lib.hid k0
  have K1 := Lib.hid k1
  have K2 := Lib.hid k2
  clear k0 k1 k2
  go_enter Try.func8, Try.ntmps8
  go_wp2_with fail
  refine ha.mono ?_
  rintro e w' ⟨rfl, rfl⟩
  clear ha
  go_wp2_with fail
  change Code.wp _ _ _ _ (tabs W)
  go_region_held (fun w' => w'.cell? ⟨W.heap.size, 2, none⟩ = some (.string ⟨#[0]⟩) ∧ w'.cell? ⟨W.heap.size + 1, 2, none⟩ = some (.int .u16 (x.toNat : Int)) ∧ w'.cell? ⟨W.heap.size + 1 + 1, 2, none⟩ = some (.int .u32 (y.toNat : Int))) (first | exact K0.out | exact K1.out | exact K2.out)
    (first | (go_at_call 12; (with_reducible refine s1.mono ?_); rintro e w' ⟨rfl, rfl⟩) | (go_at_call 14; (with_reducible refine s2.mono ?_); rintro e w' ⟨rfl, rfl⟩))
  go_wp2
  go_ret
  exact ⟨rfl, hb.trans (bl.mono hb.size)⟩

theorem tabs_3 (W : World) : Three (tabs W) W.heap.size 3 [97] (crc p16 [97]) (crc p32 [97]) := by
  have e1 : crc p16 [97] = 33527#16 := by decide +kernel
  have e2 : crc p32 [97] = 3904355907#32 := by decide +kernel
  rw [e1, e2]
  unfold tabs
  refine ⟨?_, ?_, ?_⟩
  · go_simp
    done
  · go_simp
    done
  · go_simp
    done
set_option maxHeartbeats 1000000 in
theorem FcsKnown_3 (w : World) :
    Calls Try.prog 8 #[.int .i64 3] w fun e w' => e = .returned (.bool true) ∧ Below w.heap.size w w' := by
  have hb := aliveW_below w
  obtain ⟨W, hW⟩ : ∃ W, W = laidM (laidM w dg) dg := ⟨_, rfl⟩
  rw [← hW] at hb
  have ha := alive_calls w
  rw [← hW] at ha
  clear hW
  have tb := tabs_3 W
  have bt := tabs_below W
  have k0 : Three (tabs W).drew W.heap.size 3 [97] (crc p16 [97]) (crc p32 [97]) := tb
  have k1 := k0.below (bw_below (tabs W).drew ⟨#[97]⟩)
  have k2 := k1.below (bw_below _ ⟨#[97]⟩)
  have s1 : Calls Try.prog 12 #[.slice (some ⟨(tabs W).heap.size, 0, none⟩) 1 (grownCap (tabs W).drew 1 0 5)] (Lib.bytesWorld (tabs W).drew 5 ⟨#[97]⟩) fun e w' => e = .returned (b16 (crc p16 [97])) ∧ Lib.bytesWorld (tabs W).drew 5 ⟨#[97]⟩ = w' := short_calls (some ⟨(tabs W).heap.size, 0, none⟩) (grownCap (tabs W).drew 1 0 5) [97] _ (bw_rd (tabs W).drew [97]) (by decide)
  have s2 : Calls Try.prog 14 #[.slice (some ⟨(Lib.bytesWorld (tabs W).drew 5 ⟨#[97]⟩).heap.size, 0, none⟩) 1 (grownCap (Lib.bytesWorld (tabs W).drew 5 ⟨#[97]⟩) 1 0 5)] (Lib.bytesWorld (Lib.bytesWorld (tabs W).drew 5 ⟨#[97]⟩) 5 ⟨#[97]⟩) fun e w' => e = .returned (b32 (crc p32 [97])) ∧ Lib.bytesWorld (Lib.bytesWorld (tabs W).drew 5 ⟨#[97]⟩) 5 ⟨#[97]⟩ = w' := long_calls _ (grownCap (Lib.bytesWorld (tabs W).drew 5 ⟨#[97]⟩) 1 0 5) [97] _ (bw_rd (Lib.bytesWorld (tabs W).drew 5 ⟨#[97]⟩) [97]) (by decide)
  have bl : Below W.heap.size W (Lib.bytesWorld (Lib.bytesWorld (tabs W).drew 5 ⟨#[97]⟩) 5 ⟨#[97]⟩) := (bt.drew.trans ((bw_below (tabs W).drew ⟨#[97]⟩).mono bt.size)).trans ((bw_below _ ⟨#[97]⟩).mono (by rw [Lib.bytesWorld_size]; exact Nat.le_succ_of_le bt.size))
  have hcv : ∀ v : World, (convert 9 22 (.string ⟨#[97]⟩)).run Try.prog v = .ok (.slice (some ⟨v.heap.size, 0, none⟩) 1 (grownCap v 1 0 5)) (Lib.bytesWorld v 5 ⟨#[97]⟩) := fun v =>
    Lib.run_convert_string_bytes (P := Try.prog) v 9 22 5 ⟨#[97]⟩ Try.underlying9 Try.underlying22 Try.underlying5
  unfold Three at k0 k1 k2
  unfold b16 at s1
  unfold b32 at s2
  clear tb
  generalize crc p16 [97] = x at k0 k1 k2 s1
  generalize crc p32 [97] = y at k0 k1 k2 s2
  have K0 := Lib.hid k0
  have K1 := Lib.hid k1
  have K2 := Lib.hid k2
  clear k0 k1 k2
  go_enter Try.func8, Try.ntmps8
  go_wp2_with fail
  refine ha.mono ?_
  rintro e w' ⟨rfl, rfl⟩
  clear ha
  go_wp2_with fail
  change Code.wp _ _ _ _ (tabs W)
  go_region_held (fun w' => w'.cell? ⟨W.heap.size, 3, none⟩ = some (.string ⟨#[97]⟩) ∧ w'.cell? ⟨W.heap.size + 1, 3, none⟩ = some (.int .u16 (x.toNat : Int)) ∧ w'.cell? ⟨W.heap.size + 1 + 1, 3, none⟩ = some (.int .u32 (y.toNat : Int))) (first | exact K0.out | exact K1.out | exact K2.out)
    (first | (go_at_call 12; (with_reducible refine s1.mono ?_); rintro e w' ⟨rfl, rfl⟩) | (go_at_call 14; (with_reducible refine s2.mono ?_); rintro e w' ⟨rfl, rfl⟩))
  go_wp2
  go_ret
  exact ⟨rfl, hb.trans (bl.mono hb.size)⟩
theorem FcsKnown_walk (a0 : Int) (w0 : (Lit.int .i64 a0).wf = true) (w : World) :
    Calls Try.prog 8 #[.int .i64 a0] w fun e w' => e = .returned (.bool true) ∧ Below w.heap.size w w' := by
  by_cases h : a0 < 0 ∨ 4 ≤ a0
  · exact FcsKnown_far a0 w h
  · rcases (show a0 = 0 ∨ a0 = 1 ∨ a0 = 2 ∨ a0 = 3 by omega) with rfl | rfl | rfl | rfl
    · exact FcsKnown_0 w
    · exact FcsKnown_1 w
    · exact FcsKnown_2 w
    · exact FcsKnown_3 w
end Go.Proofs.Ytjgpnhpecoijeaa

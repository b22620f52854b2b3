/- The middle callees: bytes.Equal, bytes.Clone, the reference's sum and Sum, alive. Condition: each slice reads as its bytes. -/
import Derived.Test.YtnogdlekijpdhaaFcsSmall
import Derived.Test.YtnogdlekijpdhaaRefCrcWalk
import Derived.Lib.SlBytesConst
namespace Go.Proofs.Ytnogdlekijpdhaa
open Go.RowKit
open Fcs
set_option linter.unusedVariables false

theorem nilEq (w : World) (l c : Nat) : (binOp .eql 22 (.slice none l c) (.slice none 0 0)).run Try.prog w = .ok (.bool true) w := by kernel_rfl
theorem someEq (w : World) (a : Addr) (l c : Nat) : (binOp .eql 22 (.slice (some a) l c) (.slice none 0 0)).run Try.prog w = .ok (.bool false) w := by kernel_rfl
theorem equal_calls (A : Option Addr) (c : Nat) (l : List UInt8) (B : Option Addr) (d : Nat) (m : List UInt8) (w : World) (h1 : Rd w A l) (h2 : Rd w B m) :
    Calls Try.prog 37 #[.slice A l.length c, .slice B m.length d] w fun e w' => e = .returned (.bool (l == m)) ∧ w = w' := by
  have c1 := run_conv w A c l h1
  have c2 := run_conv w B d m h2
  unfold strV at c1 c2
  go_enter Try.func37, Try.ntmps37
  go_wp2
  go_ret
  exact ⟨rfl, rfl⟩

theorem cloneOwn_calls (A : Option Addr) (c : Nat) (l : List UInt8) (w : World) (h1 : Rd w A l) (hl : l.length ≤ 1048576) :
    Calls Try.prog 38 #[.slice A l.length c] w (GivesOwn l w) := by
  rcases A with _ | ad
  · have hn : l = [] := by
      rcases l with _ | ⟨x, l⟩
      · rfl
      · obtain ⟨b, off, h, _⟩ := h1 (by simp)
        cases h
    subst hn
    have hq := nilEq w 0 c
    go_enter Try.func38, Try.ntmps38
    go_wp2
    go_ret
    exact ⟨none, 0, rfl, Own.nil _ _, Below.refl _ _⟩
  · have hq := someEq w ad l.length c
    have ho := laid_own w [] (by simp)
    obtain ⟨A', c', w', hrun, hown, hbel⟩ := run_app (laid w []) w.heap.size _ _ _ ho (some ad) c l (h1.below (laid_below _ _)) (by simp; omega) (by rw [laid_size]; omega)
    go_enter Try.func38, Try.ntmps38
    go_wp2_with (at_builtin; refine Lib.wpList_append_run _ rfl _ _ _ _ rfl _ _ rfl rfl _ _ (hrun _) ?_)
    go_ret
    exact ⟨A', c', rfl, hown, (laid_below w []).trans hbel⟩
theorem clone_calls (A : Option Addr) (c : Nat) (l : List UInt8) (w : World) (h1 : Rd w A l) (hl : l.length ≤ 1048576) :
    Calls Try.prog 38 #[.slice A l.length c] w (Gives l w) :=
  (cloneOwn_calls A c l w h1 hl).mono fun _ _ ⟨B, d, h, own, bel⟩ => ⟨B, d, h, own.rd, bel⟩

theorem m16 (n : Int) (h0 : 0 ≤ n) (h1 : n < 65536) : bits .and .u16 n 255 % 256 = n % 256 := by
  rw [u16_and n 255 h0 h1 (by omega) (by omega), show (255 : Int).toNat = 255 from rfl, nat_mask8]
  omega
theorem m32 (n : Int) (h0 : 0 ≤ n) (h1 : n < 4294967296) : bits .and .u32 n 255 % 256 = n % 256 := by
  rw [u32_and n 255 h0 h1 (by omega) (by omega), show (255 : Int).toNat = 255 from rfl, nat_mask8]
  omega
theorem row2s (x : BitVec 16) : ((le 2 x).map bv).toArray = #[.int .u8 (bits .and .u16 (x.toNat : Int) 255 % 256), .int .u8 ((x.toNat : Int) / 256)] := by
  have h8 : x.toNat < 65536 := x.isLt
  rw [row2, m16 _ (by omega) (by omega)]
  have h9 : (x.toNat : Int) / 256 % 256 = (x.toNat : Int) / 256 := by omega
  rw [h9]
theorem row4s (x : BitVec 32) : ((le 4 x).map bv).toArray = #[.int .u8 (bits .and .u32 (x.toNat : Int) 255 % 256), .int .u8 (bits .and .u32 ((x.toNat : Int) / 256) 255 % 256), .int .u8 (bits .and .u32 ((x.toNat : Int) / 65536) 255 % 256), .int .u8 ((x.toNat : Int) / 16777216)] := by
  have h8 : x.toNat < 4294967296 := x.isLt
  rw [row4, m32 _ (by omega) (by omega), m32 _ (by omega) (by omega), m32 _ (by omega) (by omega)]

theorem refsum_calls (wide : Bool) (A : Option Addr) (c : Nat) (l : List UInt8) (w : World) (hr : Rd w A l) (hl : l.length ≤ maxLen) :
    Calls Try.prog 28 #[.slice A l.length c, .bool wide] w fun e w' => e = .returned (.slice (some ⟨w.heap.size, 0, none⟩) (sumN wide) (sumN wide)) ∧ laid w (sumB wide l) = w' := by
  cases wide
  · go_enter Try.func28, Try.ntmps28
    go_wp2_with fail
    refine (refShort_calls A c l w hr hl).mono ?_
    rintro e w' ⟨rfl, rfl⟩
    unfold b16
    go_wp2
    go_ret
    exact ⟨rfl, by unfold laid; rw [show sumB false l = le 2 (crc p16 l) from rfl, row2s]⟩
  · go_enter Try.func28, Try.ntmps28
    go_wp2_with fail
    refine (refLong_calls A c l w hr hl).mono ?_
    rintro e w' ⟨rfl, rfl⟩
    unfold b32
    go_wp2
    go_ret
    exact ⟨rfl, by unfold laid; rw [show sumB true l = le 4 (crc p32 l) from rfl, row4s]⟩

end Go.Proofs.Ytnogdlekijpdhaa

/- The small callees of chapter 12: modulus, within, numbered, code, join; the reference's bit, field, bare. No condition. -/
import Derived.Test.YthakcaofihacdaaCtlPlain
import Derived.Test.YthakcaofihacdaaBytesNew
namespace Go.Proofs.Ythakcaofihacdaa
open Go.RowKit
set_option linter.unusedVariables false

theorem modulus_calls (m : Int) (w : World) : Calls Try.prog 19 #[.int .i64 m] w fun e w' => e = .returned (.bool (isMod m)) ∧ w = w' := by
  by_cases h : m = 128 ∨ m = 32768
  · rcases h with rfl | rfl
    · go_enter Try.func19, Try.ntmps19
      go_wp2
      go_ret
      exact ⟨rfl, rfl⟩
    · go_enter Try.func19, Try.ntmps19
      go_wp2
      go_ret
      exact ⟨rfl, rfl⟩
  · have h1 : (m == 128) = false := by simpa using fun e => h (.inl e)
    have h2 : (m == 32768) = false := by simpa using fun e => h (.inr e)
    have hm : isMod m = false := decide_eq_false h
    rw [hm]
    clear hm h
    go_enter Try.func19, Try.ntmps19
    go_wp2
    go_ret
    exact ⟨rfl, rfl⟩
theorem within_calls (n m : Int) (w : World) : Calls Try.prog 20 #[.int .i64 n, .int .i64 m] w fun e w' => e = .returned (.bool (inR n m)) ∧ w = w' := by
  by_cases h0 : 0 ≤ n
  · by_cases h1 : n < m
    · rw [show inR n m = true from decide_eq_true ⟨h0, h1⟩]
      go_enter Try.func20, Try.ntmps20
      go_wp2
      go_ret
      exact ⟨rfl, rfl⟩
    · rw [show inR n m = false from decide_eq_false fun h => h1 h.2]
      go_enter Try.func20, Try.ntmps20
      go_wp2
      go_ret
      exact ⟨rfl, rfl⟩
  · rw [show inR n m = false from decide_eq_false fun h => h0 h.1]
    go_enter Try.func20, Try.ntmps20
    go_wp2
    go_ret
    exact ⟨rfl, rfl⟩
theorem numbered_calls (k : Int) (w : World) : Calls Try.prog 16 #[.int .i64 k] w fun e w' => e = .returned (.bool (numb k)) ∧ w = w' := by
  by_cases h : k = 0 ∨ k = 1 ∨ k = 2
  · rcases h with rfl | rfl | rfl
    all_goals
      go_enter Try.func16, Try.ntmps16
      go_wp2
      go_ret
      exact ⟨rfl, rfl⟩
  · have h0 : (k == 0) = false := by simpa using fun e => h (.inl e)
    have h1 : (k == 1) = false := by simpa using fun e => h (.inr (.inl e))
    have h2 : (k == 2) = false := by simpa using fun e => h (.inr (.inr e))
    rw [show numb k = false from decide_eq_false h]
    clear h
    go_enter Try.func16, Try.ntmps16
    go_wp2
    go_ret
    exact ⟨rfl, rfl⟩
theorem code_calls (k : Int) (w : World) : Calls Try.prog 17 #[.int .i64 k] w fun e w' => e = .returned (.int .i64 (codeOf k)) ∧ w = w' := by
  by_cases h : k = 1 ∨ k = 2 ∨ k = 3 ∨ k = 4 ∨ k = 5 ∨ k = 6 ∨ k = 7
  · rcases h with rfl | rfl | rfl | rfl | rfl | rfl | rfl
    all_goals
      go_enter Try.func17, Try.ntmps17
      go_wp2
      go_ret
      exact ⟨rfl, rfl⟩
  · have h1 : ¬ k = 1 := by omega
    have h2 : ¬ k = 2 := by omega
    have h3 : ¬ k = 3 := by omega
    have h4 : ¬ k = 4 := by omega
    have h5 : ¬ k = 5 := by omega
    have h6 : ¬ k = 6 := by omega
    have h7 : ¬ k = 7 := by omega
    rw [show codeOf k = 0 by unfold codeOf; rw [if_neg h1, if_neg h2, if_neg h3, if_neg h4, if_neg h5, if_neg h6, if_neg h7]]
    clear h
    go_enter Try.func17, Try.ntmps17
    go_wp2
    go_ret
    exact ⟨rfl, rfl⟩
theorem bit_calls (p : Bool) (w : World) : Calls Try.prog 22 #[.bool p] w fun e w' => e = .returned (.int .i64 (pb p)) ∧ w = w' := by
  cases p
  all_goals
    go_enter Try.func22, Try.ntmps22
    go_wp2
    go_ret
    exact ⟨rfl, rfl⟩
theorem bvs (x : Int) : bv (by8 x) = .int .u8 (x % 256) := by rw [bv, by8_nat]
theorem join_calls (x y m : Int) (w : World) (hx : 0 ≤ x ∧ x < 65536) (hy : 0 ≤ y ∧ y < 65536) :
    Calls Try.prog 18 #[.int .i64 x, .int .i64 y, .int .i64 m] w fun e w' => e = .returned (.slice (some ⟨w.heap.size, 0, none⟩) (joinB x y m).length (joinB x y m).length) ∧ laid w (joinB x y m) = w' := by
  by_cases hm : m = 128
  · subst hm
    have key : laid w (joinB x y 128) = w.alloc (.cells #[.int .u8 (x % 256), .int .u8 (y % 256)] 5) := by
      rw [laid, show joinB x y 128 = [by8 x, by8 y] from rfl]
      simp only [List.map_cons, List.map_nil, bvs]
    have K := Lib.hid key
    clear key
    go_enter Try.func18, Try.ntmps18
    go_wp2
    go_ret
    exact ⟨rfl, K.out⟩
  · have hq : joinB x y m = [by8 x, by8 (x / 256), by8 y, by8 (y / 256)] := if_neg hm
    have key : laid w (joinB x y m) = w.alloc (.cells #[.int .u8 (x % 256), .int .u8 (x / 256), .int .u8 (y % 256), .int .u8 (y / 256)] 5) := by
      rw [laid, hq]
      simp only [List.map_cons, List.map_nil, bvs]
      rw [show x / 256 % 256 = x / 256 by omega, show y / 256 % 256 = y / 256 by omega]
    rw [hq] at key ⊢
    have K := Lib.hid key
    clear key hq
    go_enter Try.func18, Try.ntmps18
    go_wp2
    go_ret
    exact ⟨rfl, K.out⟩
def fieldB (x m : Int) : List UInt8 := if m = 128 then [by8 x] else [by8 x, by8 (x / 256)]
theorem field_calls (n low m : Int) (w : World) (hx : 0 ≤ n * 2 + low ∧ n * 2 + low < 65536) (hn : 0 ≤ n * 2 ∧ n * 2 < 65536) :
    Calls Try.prog 21 #[.int .i64 n, .int .i64 low, .int .i64 m] w fun e w' => e = .returned (.slice (some ⟨w.heap.size, 0, none⟩) (fieldB (n * 2 + low) m).length (fieldB (n * 2 + low) m).length) ∧ laid w (fieldB (n * 2 + low) m) = w' := by
  have a8 := i64_and255 (n * 2 + low)
  by_cases hm : m = 128
  · subst hm
    have key : laid w (fieldB (n * 2 + low) 128) = w.alloc (.cells #[.int .u8 ((n * 2 + low) % 256)] 5) := by
      rw [laid, show fieldB (n * 2 + low) 128 = [by8 (n * 2 + low)] from rfl]
      simp only [List.map_cons, List.map_nil, bvs]
    have K := Lib.hid key
    clear key
    go_enter Try.func21, Try.ntmps21
    go_wp2
    go_ret
    exact ⟨rfl, K.out⟩
  · have hq : fieldB (n * 2 + low) m = [by8 (n * 2 + low), by8 ((n * 2 + low) / 256)] := if_neg hm
    have key : laid w (fieldB (n * 2 + low) m) = w.alloc (.cells #[.int .u8 ((n * 2 + low) % 256), .int .u8 ((n * 2 + low) / 256)] 5) := by
      rw [laid, hq]
      simp only [List.map_cons, List.map_nil, bvs]
      rw [show (n * 2 + low) / 256 % 256 = (n * 2 + low) / 256 by omega]
    rw [hq] at key ⊢
    have K := Lib.hid key
    clear key hq
    go_enter Try.func21, Try.ntmps21
    go_wp2
    go_ret
    exact ⟨rfl, K.out⟩
theorem bare_calls (k : Int) (hk : 3 ≤ k ∧ k ≤ 7) (w : World) : Calls Try.prog 23 #[.int .i64 k] w fun e w' => e = .returned (.int .i64 (codeOf k)) ∧ w.alloc (.cells #[.int .i64 111, .int .i64 99, .int .i64 67, .int .i64 15, .int .i64 135] 3) = w' := by
  have h : k = 3 ∨ k = 4 ∨ k = 5 ∨ k = 6 ∨ k = 7 := by omega
  clear hk
  rcases h with rfl | rfl | rfl | rfl | rfl
  all_goals
    go_enter Try.func23, Try.ntmps23
    go_wp2
    go_ret
    exact ⟨rfl, rfl⟩
end Go.Proofs.Ythakcaofihacdaa

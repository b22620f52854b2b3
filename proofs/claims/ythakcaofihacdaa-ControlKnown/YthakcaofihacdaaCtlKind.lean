/- To which kind a first byte belongs; the two numbers at the beginning. Condition: the slice reads as its bytes. -/
import Derived.Test.YthakcaofihacdaaCtlBytes
import Derived.Deep.LoopGhost
import Derived.BigQuiet
import Derived.OwnWalk
namespace Go.Proofs.Ythakcaofihacdaa
open Go.RowKit
set_option linter.unusedVariables false

set_option maxHeartbeats 800000 in
theorem kindOf_calls (f : Int) (hf : 0 ≤ f) (hg : f < 256) (w : World) :
    Calls Try.prog 24 #[.int .i64 f] w fun e w' => e = .returned (.tuple #[.int .i64 (kindN f).1, .bool (kindN f).2]) ∧ w = w' := by
  obtain ⟨R, hR⟩ : ∃ R, kindN f = R := ⟨_, rfl⟩
  rw [hR]
  have HR := Lib.hid hR
  clear hR
  by_cases he : f % 2 = 0
  · have hz : R = (0, true) := by rw [← HR.out]; unfold kindN; rw [if_pos he]
    subst hz
    clear HR
    go_enter Try.func24, Try.ntmps24
    go_wp2
    go_ret2
    exact ⟨rfl, rfl⟩
  · have heb : (f % 2 == 0) = false := by simpa using he
    have HO := Lib.hid he
    clear he
    go_enter Try.func24, Try.ntmps24
    go_wp2_with fail
    go_loopg [4] 7 (fun kx s4 wr => ∃ k : Nat, s4 = .int .i64 (k : Int) ∧ 1 ≤ k ∧ k ≤ 8 ∧ 8 - k ≤ kx ∧ wr = w ∧ Aside (∀ j : Int, 1 ≤ j → j < (k : Int) → ¬ (f = codeOf j ∨ (numb j = false ∧ f = codeOf j + 16))))
    case atStart => exact ⟨1, rfl, by omega, by omega, by omega, rfl, fun j h1 h2 => by omega⟩
    case round =>
      obtain ⟨k, rfl, hk1, hk8, hkx, rfl, HA⟩ := hrel
      by_cases hk : k ≤ 7
      · have hkz : (k : Int) ≤ 7 := by omega
        have cb := code_bound (k : Int)
        by_cases hc : f = codeOf (k : Int)
        · have hcb : (f == codeOf (k : Int)) = true := by simpa using hc
          have hz : R = ((k : Int), true) := by rw [← HR.out]; exact kind_hit f k (by omega) (by omega) (.inl hc)
          subst hz
          clear hc HR HA
          go_wp2_with fail
          refine (code_calls (k : Int) _).mono ?_
          rintro e w' ⟨rfl, rfl⟩
          go_wp2
          go_ret2
          exact ⟨rfl, rfl⟩
        · have hcb : (f == codeOf (k : Int)) = false := by simpa using hc
          have HC := Lib.hid hc
          clear hc
          cases hn : numb (k : Int)
          · by_cases hd : f = codeOf (k : Int) + 16
            · have hdb : (f == codeOf (k : Int) + 16) = true := by simpa using hd
              have hz : R = ((k : Int), true) := by rw [← HR.out]; exact kind_hit f k (by omega) (by omega) (.inr ⟨hn, hd⟩)
              subst hz
              clear hd HR HA
              go_wp2_with fail
              refine (code_calls (k : Int) _).mono ?_
              rintro e w' ⟨rfl, rfl⟩
              go_wp2_with fail
              refine (numbered_calls (k : Int) _).mono ?_
              rintro e w' ⟨rfl, rfl⟩
              go_wp2_with fail
              refine (code_calls (k : Int) _).mono ?_
              rintro e w' ⟨rfl, rfl⟩
              go_wp2
              go_ret2
              exact ⟨rfl, rfl⟩
            · have hdb : (f == codeOf (k : Int) + 16) = false := by simpa using hd
              have HD := Lib.hid hd
              have FIN : Aside (∀ j : Int, 1 ≤ j → j < ((k + 1 : Nat) : Int) → ¬ (f = codeOf j ∨ (numb j = false ∧ f = codeOf j + 16))) := by
                intro j h1 h2 h3
                by_cases hj : j = (k : Int)
                · subst hj
                  rcases h3 with h3 | ⟨_, h3⟩
                  · exact HC.out h3
                  · exact HD.out h3
                · exact HA.out j h1 (by omega) h3
              clear hd HA HC HD
              go_wp2_with fail
              refine (code_calls (k : Int) _).mono ?_
              rintro e w' ⟨rfl, rfl⟩
              go_wp2_with fail
              refine (numbered_calls (k : Int) _).mono ?_
              rintro e w' ⟨rfl, rfl⟩
              go_wp2_with fail
              refine (code_calls (k : Int) _).mono ?_
              rintro e w' ⟨rfl, rfl⟩
              go_wp2
              go_roundg (7 - k)
              case measure => omega
              case rel => exact ⟨k + 1, by go_num, by omega, by omega, by omega, rfl, FIN⟩
          · have HN := Lib.hid hn
            have FIN : Aside (∀ j : Int, 1 ≤ j → j < ((k + 1 : Nat) : Int) → ¬ (f = codeOf j ∨ (numb j = false ∧ f = codeOf j + 16))) := by
              intro j h1 h2 h3
              by_cases hj : j = (k : Int)
              · subst hj
                rcases h3 with h3 | ⟨h4, h3⟩
                · exact HC.out h3
                · rw [HN.out] at h4
                  cases h4
              · exact HA.out j h1 (by omega) h3
            clear HA HC
            go_wp2_with fail
            refine (code_calls (k : Int) _).mono ?_
            rintro e w' ⟨rfl, rfl⟩
            go_wp2_with fail
            refine (numbered_calls (k : Int) _).mono ?_
            rintro e w' ⟨rfl, rfl⟩
            go_wp2
            go_roundg (7 - k)
            case measure => omega
            case rel => exact ⟨k + 1, by go_num, by omega, by omega, by omega, rfl, FIN⟩
      · have hkz : ¬ (k : Int) ≤ 7 := by omega
        have hz : R = (0, false) := by rw [← HR.out]; exact kind_miss f HO.out (fun j h1 h7 => HA.out j h1 (by omega))
        subst hz
        clear HR HA
        go_wp2
        go_ret2
        exact ⟨rfl, rfl⟩

theorem i64_or8 (a b : Int) (ha : 0 ≤ a) (ha' : a < 256) (hb : 0 ≤ b) (hb' : b < 256) : bits .or .i64 a (b * 256) = a + 256 * b := by
  obtain ⟨x, rfl⟩ : ∃ x : Nat, a = (x : Int) := ⟨a.toNat, by omega⟩
  obtain ⟨y, rfl⟩ : ∃ y : Nat, b = (y : Int) := ⟨b.toNat, by omega⟩
  show IntKind.i64.wrap ((BitVec.ofInt 64 (x : Int) ||| BitVec.ofInt 64 ((y : Int) * 256)).toNat : Nat) = _
  rw [BitVec.toNat_or, BitVec.toNat_ofInt, BitVec.toNat_ofInt]
  have e1 : ((x : Int) % ((2 ^ 64 : Nat) : Int)).toNat = x := by omega
  have e2 : ((y : Int) * 256 % ((2 ^ 64 : Nat) : Int)).toNat = 2 ^ 8 * y := by omega
  rw [e1, e2, Nat.or_comm, ← Nat.two_pow_add_eq_or_of_lt (by omega), IntKind.wrap_i64]
  omega
theorem Rd.bAt {w : World} {A : Option Addr} {l : List UInt8} (h : Rd w A l) (j : Nat) (hj : j < l.length) : ∃ b off, A = some ⟨b, off, none⟩ ∧ b < w.heap.size ∧ ∀ i, i < l.length → w.cell? ⟨b, off + i, none⟩ = some (.int .u8 (bAt l i)) := by
  obtain ⟨b, off, e, hb, _⟩ := h.at_ hj
  obtain ⟨b', off', e', hc⟩ := h (by rintro rfl; simp at hj)
  rw [e] at e'
  injection e' with e'
  injection e' with e1 e2
  subst e1 e2
  exact ⟨b, off, e, hb, hc⟩
theorem split_calls (A : Option Addr) (c : Nat) (l : List UInt8) (m : Int) (w : World) (hr : Rd w A l) (hl : l.length ≤ 1000) (hm : m = 128 ∨ m = 32768) :
    Calls Try.prog 26 #[.slice A l.length c, .int .i64 m] w fun e w' => e = .returned (.tuple #[.int .i64 (splitN l m).1, .int .i64 (splitN l m).2.1, .int .i64 (splitN l m).2.2]) ∧ ∃ n, w' = w.drewN n := by
  obtain ⟨n, hn⟩ : ∃ n, n = l.length := ⟨_, rfl⟩
  rcases hm with rfl | rfl
  · by_cases h2 : 2 ≤ l.length
    · rw [show splitN l 128 = (bAt l 0, bAt l 1, 2) from if_pos ⟨rfl, h2⟩]
      obtain ⟨b, off, rfl, hb, hc⟩ := hr.bAt 0 (by omega)
      have q0 : w.cell? ⟨b, off, none⟩ = some (.int .u8 (bAt l 0)) := hc 0 (by omega)
      have q1 := hc 1 (by omega)
      have b0 := bAt_lt l 0
      have b1 := bAt_lt l 1
      generalize bAt l 0 = x0 at *
      generalize bAt l 1 = x1 at *
      rw [← hn] at h2 hl ⊢
      clear hc hr hn
      have h2z : (2 : Int) ≤ (n : Int) := by omega
      go_enter Try.func26, Try.ntmps26
      go_wp2_with fail
      go_quiet (fail)
      go_wp2
      go_ret3
      exact ⟨rfl, _, rfl⟩
    · rw [show splitN l 128 = (0, 0, 0) by unfold splitN; rw [if_neg (by omega), if_neg (by omega)]]
      have h2z : ¬ (2 : Int) ≤ (l.length : Int) := by omega
      go_enter Try.func26, Try.ntmps26
      go_wp2
      go_ret3
      exact ⟨rfl, 0, rfl⟩
  · by_cases h2 : 4 ≤ l.length
    · rw [show splitN l 32768 = (bAt l 0 + 256 * bAt l 1, bAt l 2 + 256 * bAt l 3, 4) by unfold splitN; rw [if_neg (by omega), if_pos ⟨rfl, h2⟩]]
      obtain ⟨b, off, rfl, hb, hc⟩ := hr.bAt 0 (by omega)
      have q0 : w.cell? ⟨b, off, none⟩ = some (.int .u8 (bAt l 0)) := hc 0 (by omega)
      have q1 := hc 1 (by omega)
      have q2 := hc 2 (by omega)
      have q3 := hc 3 (by omega)
      have b0 := bAt_lt l 0
      have b1 := bAt_lt l 1
      have b2 := bAt_lt l 2
      have b3 := bAt_lt l 3
      generalize bAt l 0 = x0 at *
      generalize bAt l 1 = x1 at *
      generalize bAt l 2 = x2 at *
      generalize bAt l 3 = x3 at *
      have o1 := i64_or8 x0 x1 b0.1 b0.2 b1.1 b1.2
      have o2 := i64_or8 x2 x3 b2.1 b2.2 b3.1 b3.2
      rw [← hn] at h2 hl ⊢
      clear hc hr hn
      have h2z : (4 : Int) ≤ (n : Int) := by omega
      go_enter Try.func26, Try.ntmps26
      go_wp2_with fail
      go_quiet (fail)
      go_wp2
      go_ret3
      trace_state
      exact ⟨rfl, _, rfl⟩
    · rw [show splitN l 32768 = (0, 0, 0) by unfold splitN; rw [if_neg (by omega), if_neg (by omega)]]
      have h2z : ¬ (4 : Int) ≤ (l.length : Int) := by omega
      go_enter Try.func26, Try.ntmps26
      go_wp2
      go_ret3
      exact ⟨rfl, 0, rfl⟩
end Go.Proofs.Ythakcaofihacdaa

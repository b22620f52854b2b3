/- The law FcsRest, walked. Condition: the slice reads as its bytes. -/
import Derived.Test.YtjgpnhpecoijeaaFcsChecksWalk
namespace Go.Proofs.Ytjgpnhpecoijeaa
open Go.RowKit
open Fcs
set_option linter.unusedVariables false

theorem FcsRest_far (A : Option Addr) (n c : Nat) (w : World) (hl : 300 < n) (hm : n ≤ 9223372036854775807) :
    Calls Try.prog 7 #[.slice A n c] w fun e w' => e = .returned (.bool true) ∧ Below w.heap.size w w' := by
  have hb := aliveW_below w
  go_enter Try.func7, Try.ntmps7
  go_wp2_with fail
  refine (alive_calls w).mono ?_
  rintro e w' ⟨rfl, rfl⟩
  go_wp2
  go_ret
  exact ⟨rfl, hb⟩
theorem rest16 (l : List UInt8) : crc p16 (l ++ sumB false l) = crc p16 ([] ++ sumB false []) := crc_rest p16 2 (by decide) l
theorem rest32 (l : List UInt8) : crc p32 (l ++ sumB true l) = crc p32 ([] ++ sumB true []) := crc_rest p32 4 (by decide) l
theorem FcsRest_near (A : Option Addr) (c : Nat) (l : List UInt8) (w : World) (hr : Rd w A l) (hl : l.length ≤ 300) :
    Calls Try.prog 7 #[.slice A l.length c] w fun e w' => e = .returned (.bool true) ∧ Below w.heap.size w w' := by
  have hb := aliveW_below w
  obtain ⟨W, hW⟩ : ∃ W, W = laidM (laidM w dg) dg := ⟨_, rfl⟩
  rw [← hW] at hb
  have ha := alive_calls w
  rw [← hW] at ha
  clear hW
  have n1 : (l ++ sumB false l).length ≤ maxLen := by rw [List.length_append, sumB_len]; unfold maxLen sumN; simp; omega
  have n2 : (l ++ sumB true l).length ≤ maxLen := by rw [List.length_append, sumB_len]; unfold maxLen sumN; simp; omega
  have n3 : ([] ++ sumB false [] : List UInt8).length ≤ maxLen := by decide
  have n4 : ([] ++ sumB true [] : List UInt8).length ≤ maxLen := by decide
  go_enter Try.func7, Try.ntmps7
  go_wp2_with fail
  refine ha.mono ?_
  rintro e w' ⟨rfl, rfl⟩
  clear ha
  go_wp2_with fail
  refine (put_calls false A c l W (hr.below hb) (by omega)).mono ?_
  rintro e w1 ⟨A1, c1, rfl, own1, bel1⟩
  have b1 := hb.trans (bel1.mono hb.size)
  have r1 := own1.rd
  clear own1 bel1
  have s1 := short_calls A1 c1 (l ++ sumB false l) w1 r1 n1
  rw [List.length_append] at s1
  go_wp2_with fail
  refine s1.mono ?_
  rintro e w' ⟨rfl, rfl⟩
  clear s1
  go_wp2_with fail
  refine (put_calls false none 0 [] w1 (Rd.nil _ _) (by simp)).mono ?_
  rintro e w2 ⟨A2, c2, rfl, own2, bel2⟩
  have b2 := b1.trans (bel2.mono b1.size)
  have r2 := own2.rd
  clear own2 bel2
  have s2 := short_calls A2 c2 ([] ++ sumB false []) w2 r2 n3
  rw [← rest16 l] at s2
  unfold b16
  go_wp2_with fail
  refine s2.mono ?_
  rintro e w' ⟨rfl, rfl⟩
  clear s2
  unfold b16
  go_wp2_with fail
  refine (put_calls true A c l w2 (hr.below b2) (by omega)).mono ?_
  rintro e w3 ⟨A3, c3, rfl, own3, bel3⟩
  have b3 := b2.trans (bel3.mono b2.size)
  have r3 := own3.rd
  clear own3 bel3
  have s3 := long_calls A3 c3 (l ++ sumB true l) w3 r3 n2
  rw [List.length_append] at s3
  go_wp2_with fail
  refine s3.mono ?_
  rintro e w' ⟨rfl, rfl⟩
  clear s3
  go_wp2_with fail
  refine (put_calls true none 0 [] w3 (Rd.nil _ _) (by simp)).mono ?_
  rintro e w4 ⟨A4, c4, rfl, own4, bel4⟩
  have b4 := b3.trans (bel4.mono b3.size)
  have r4 := own4.rd
  clear own4 bel4
  have s4 := long_calls A4 c4 ([] ++ sumB true []) w4 r4 n4
  rw [← rest32 l] at s4
  unfold b32
  go_wp2_with fail
  refine s4.mono ?_
  rintro e w' ⟨rfl, rfl⟩
  clear s4
  unfold b32
  go_wp2
  go_ret
  exact ⟨rfl, b4⟩
theorem FcsRest_walk (a0 : Option Addr) (len0 cap0 : Nat) (z0 : List Int) (w : World)
    (h : (a0 = none ∧ len0 = 0 ∧ cap0 = 0 ∧ z0 = []) ∨ ∃ x, a0 = some x ∧ len0 ≤ cap0 ∧ cap0 ≤ maxLen ∧ z0.length = cap0 ∧ (∀ i, i < z0.length → w.cell? (x.add i) = some (.int .u8 (z0.getD i 0))) ∧ ∀ n ∈ z0, (Lit.int .u8 n).wf = true) :
    Calls Try.prog 7 #[.slice a0 len0 cap0] w fun e w' => e = .returned (.bool true) ∧ Below w.heap.size w w' := by
  obtain ⟨l, rfl, hc, hm, hr⟩ := Rd.of_row h
  by_cases hl : l.length ≤ 300
  · exact FcsRest_near a0 cap0 l w hr hl
  · exact FcsRest_far a0 l.length cap0 w (by omega) (by unfold maxLen at hm; omega)
end Go.Proofs.Ytjgpnhpecoijeaa

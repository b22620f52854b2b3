/- The program's Read. Condition: the slice reads as its bytes. -/
import Derived.Test.YthakcaofihacdaaCtlKind
namespace Go.Proofs.Ythakcaofihacdaa
open Go.RowKit
set_option linter.unusedVariables false

theorem split_b (l : List UInt8) (m : Int) : 0 ≤ (splitN l m).1 ∧ (splitN l m).1 < 65536 ∧ 0 ≤ (splitN l m).2.1 ∧ (splitN l m).2.1 < 65536 ∧ ((splitN l m).2.2 = 0 ∨ (splitN l m).2.2 = 2 ∨ (splitN l m).2.2 = 4) := by
  have b0 := bAt_lt l 0
  have b1 := bAt_lt l 1
  have b2 := bAt_lt l 2
  have b3 := bAt_lt l 3
  unfold splitN
  split
  · refine ⟨?_, ?_, ?_, ?_, .inr (.inl rfl)⟩ <;> dsimp only <;> omega
  · split
    · refine ⟨?_, ?_, ?_, ?_, .inr (.inr rfl)⟩ <;> dsimp only <;> omega
    · refine ⟨?_, ?_, ?_, ?_, .inl rfl⟩ <;> decide
/-- what a call that reads a control field returns -/
def GivesC (r : Ctl × Int × Int) (w : World) (e : Ending) (w' : World) : Prop :=
  e = .returned (.tuple #[cv r.1, .int .i64 r.2.1, .int .i64 r.2.2]) ∧ Below w.heap.size w w'
section
variable {w v : World}
theorem ba {o : Obj} (h : Below w.heap.size w v) : Below w.heap.size w (v.alloc o) := h.alloc h.size o
theorem bs {p : Addr} {u : Value} (h : Below w.heap.size w v) (hp : w.heap.size ≤ p.block) : Below w.heap.size w (v.setCell p u) := h.setCell hp u
theorem bd {n : Nat} (h : Below w.heap.size w v) : Below w.heap.size w (v.drewN n) := ⟨h.os, h.tape, h.output, h.size, h.block⟩
end
theorem dec_beq (a b : Int) : decide (a = b) = (a == b) := by by_cases h : a = b <;> simp [h]

set_option maxHeartbeats 800000 in
theorem readNum_calls (k : Int) (A : Option Addr) (c : Nat) (l : List UInt8) (m : Int) (w : World) (hr : Rd w A l) (hl : l.length ≤ 1000) (hm : m = 128 ∨ m = 32768) :
    Calls Try.prog 25 #[.int .i64 k, .slice A l.length c, .int .i64 m] w (GivesC (rdNum k (splitN l m)) w) := by
  have SC := fun o => split_calls A c l m (w.alloc o) (hr.alloc o) hl hm
  have sb := split_b l m
  generalize splitN l m = s at *
  obtain ⟨s1, s2, s3⟩ := s
  simp only at SC sb
  obtain ⟨c1, c2, c3, c4, c5⟩ := sb
  by_cases h0 : s3 = 0
  · subst h0
    rw [show rdNum k (s1, s2, 0) = (zc, 0, 3) from rfl]
    go_enter Try.func25, Try.ntmps25
    go_wp2_with fail
    refine (SC _).mono ?_
    rintro e w' ⟨rfl, n, rfl⟩
    go_wp2
    refine bodyPost_ret (v := .tuple #[.agg #[.int .i64 0, .int .i64 0, .int .i64 0, .bool false], .int .i64 0, .int .i64 3]) (by simp [results, Try.results25, go_sem]) rfl ⟨rfl, by ((repeat (first | with_reducible refine ba ?_ | with_reducible refine bd ?_ | with_reducible refine bs ?_ (by first | exact Nat.le_refl _ | exact Nat.le_succ _))); exact Below.refl _ _)⟩
  · have h0b : (s3 == 0) = false := by simpa using h0
    by_cases hk : k = 0
    · subst hk
      rw [show rdNum 0 (s1, s2, s3) = ((0, s1 / 2, s2 / 2, decide (s2 % 2 = 1)), s3, 0) by unfold rdNum; rw [if_neg h0]; rfl, dec_beq]
      go_enter Try.func25, Try.ntmps25
      go_wp2_with fail
      refine (SC _).mono ?_
      rintro e w' ⟨rfl, n, rfl⟩
      go_wp2
      refine bodyPost_ret (v := .tuple #[.agg #[.int .i64 0, .int .i64 (s1 / 2), .int .i64 (s2 / 2), .bool (s2 % 2 == 1)], .int .i64 s3, .int .i64 0]) (by simp [results, Try.results25, go_sem]) rfl ⟨rfl, by ((repeat (first | with_reducible refine ba ?_ | with_reducible refine bd ?_ | with_reducible refine bs ?_ (by first | exact Nat.le_refl _ | exact Nat.le_succ _))); exact Below.refl _ _)⟩
    · have hkb : (k == 0) = false := by simpa using hk
      by_cases hc : s1 = codeOf k
      · rw [show rdNum k (s1, s2, s3) = ((k, 0, s2 / 2, decide (s2 % 2 = 1)), s3, 0) by unfold rdNum; rw [if_neg h0, if_neg hk, if_pos hc], dec_beq]
        have hcb : (s1 != codeOf k) = false := by simp [hc]
        clear hc
        go_enter Try.func25, Try.ntmps25
        go_wp2_with fail
        refine (SC _).mono ?_
        rintro e w' ⟨rfl, n, rfl⟩
        go_wp2_with fail
        refine (code_calls k _).mono ?_
        rintro e w' ⟨rfl, rfl⟩
        go_wp2
        refine bodyPost_ret (v := .tuple #[.agg #[.int .i64 k, .int .i64 0, .int .i64 (s2 / 2), .bool (s2 % 2 == 1)], .int .i64 s3, .int .i64 0]) (by simp [results, Try.results25, go_sem]) rfl ⟨rfl, by ((repeat (first | with_reducible refine ba ?_ | with_reducible refine bd ?_ | with_reducible refine bs ?_ (by first | exact Nat.le_refl _ | exact Nat.le_succ _))); exact Below.refl _ _)⟩
      · rw [show rdNum k (s1, s2, s3) = (zc, 0, 2) by unfold rdNum; rw [if_neg h0, if_neg hk, if_neg hc]]
        have hcb : (s1 != codeOf k) = true := by simpa using hc
        clear hc
        go_enter Try.func25, Try.ntmps25
        go_wp2_with fail
        refine (SC _).mono ?_
        rintro e w' ⟨rfl, n, rfl⟩
        go_wp2_with fail
        refine (code_calls k _).mono ?_
        rintro e w' ⟨rfl, rfl⟩
        go_wp2
        refine bodyPost_ret (v := .tuple #[.agg #[.int .i64 0, .int .i64 0, .int .i64 0, .bool false], .int .i64 0, .int .i64 2]) (by simp [results, Try.results25, go_sem]) rfl ⟨rfl, by ((repeat (first | with_reducible refine ba ?_ | with_reducible refine bd ?_ | with_reducible refine bs ?_ (by first | exact Nat.le_refl _ | exact Nat.le_succ _))); exact Below.refl _ _)⟩
theorem u8_and16 (x : Int) (h0 : 0 ≤ x) (h1 : x < 256) : (bits .and .u8 x 16 != 0) = decide (x / 16 % 2 = 1) := by
  have key : ∀ n : Fin 256, (bits .and .u8 ((n.val : Nat) : Int) 16 != 0) = decide (((n.val : Nat) : Int) / 16 % 2 = 1) := by decide +kernel
  have := key ⟨x.toNat, by omega⟩
  rw [show (((⟨x.toNat, by omega⟩ : Fin 256).val : Nat) : Int) = x by show ((x.toNat : Nat) : Int) = x; omega] at this
  exact this
set_option maxHeartbeats 1000000 in
theorem read_calls (A : Option Addr) (c : Nat) (l : List UInt8) (m : Int) (w : World) (hr : Rd w A l) (hl : l.length ≤ 1000) :
    Calls Try.prog 13 #[.slice A l.length c, .int .i64 m] w (GivesC (rdC l m) w) := by
  cases hm : isMod m
  · rw [show rdC l m = (zc, 0, 1) by unfold rdC; rw [hm]; rfl]
    go_enter Try.func13, Try.ntmps13
    go_wp2_with fail
    refine (modulus_calls m _).mono ?_
    rintro e w' ⟨rfl, rfl⟩
    go_wp2
    refine bodyPost_ret (v := .tuple #[.agg #[.int .i64 0, .int .i64 0, .int .i64 0, .bool false], .int .i64 0, .int .i64 1]) (by simp [results, Try.results13, go_sem]) rfl ⟨rfl, by ((repeat (first | with_reducible refine ba ?_ | with_reducible refine bd ?_ | with_reducible refine bs ?_ (by first | exact Nat.le_refl _ | exact Nat.le_succ _))); exact Below.refl _ _)⟩
  · by_cases h0 : l = []
    · subst h0
      rw [show rdC [] m = (zc, 0, 3) by unfold rdC; rw [hm]; rfl]
      go_enter Try.func13, Try.ntmps13
      go_wp2_with fail
      refine (modulus_calls m _).mono ?_
      rintro e w' ⟨rfl, rfl⟩
      go_wp2
      refine bodyPost_ret (v := .tuple #[.agg #[.int .i64 0, .int .i64 0, .int .i64 0, .bool false], .int .i64 0, .int .i64 3]) (by simp [results, Try.results13, go_sem]) rfl ⟨rfl, by ((repeat (first | with_reducible refine ba ?_ | with_reducible refine bd ?_ | with_reducible refine bs ?_ (by first | exact Nat.le_refl _ | exact Nat.le_succ _))); exact Below.refl _ _)⟩
    · have hpos : 0 < l.length := List.length_pos_iff.mpr h0
      have hq : rdC l m = (if (kindN (bAt l 0)).2 = false then (zc, 0, 2) else if numb (kindN (bAt l 0)).1 = true then rdNum (kindN (bAt l 0)).1 (splitN l m) else (((kindN (bAt l 0)).1, 0, 0, decide (bAt l 0 / 16 % 2 = 1)), 1, 0)) := by
        unfold rdC
        rw [if_neg (by rw [hm]; decide), if_neg h0]
      rw [hq]
      clear hq
      obtain ⟨b, off, rfl, hb, hc⟩ := hr.bAt 0 hpos
      have q0 : ∀ o, (w.alloc o).cell? ⟨b, off, none⟩ = some (.int .u8 (bAt l 0)) := fun o => ((Below.refl w.heap.size w).alloc (Nat.le_refl _) o).cell (p := ⟨b, off, none⟩) hb |>.trans (hc 0 hpos)
      have b0 := bAt_lt l 0
      have KC := fun v => kindOf_calls (bAt l 0) b0.1 b0.2 v
      have RC := fun k o => readNum_calls k (some ⟨b, off, none⟩) c l m (w.alloc o) (hr.alloc o) hl (of_decide_eq_true hm)
      have P16 := u8_and16 (bAt l 0) b0.1 b0.2
      rw [← P16]
      clear P16 hc hr
      generalize bAt l 0 = x at *
      generalize kindN x = K at *
      obtain ⟨k, ok⟩ := K
      dsimp only at KC ⊢
      generalize hn : l.length = n at *
      have l0 : (0 : Int) < (n : Int) := by omega
      have l1 : ((n : Int) == 0) = false := by simp; omega
      have QH := Lib.hid q0
      clear q0 hn
      cases ok
      · rw [if_pos rfl]
        have q0 := QH.out (.cells #[.int .i64 0, .int .i64 0, .int .i64 0, .bool false] 23)
        go_enter Try.func13, Try.ntmps13
        go_wp2_with fail
        refine (modulus_calls m _).mono ?_
        rintro e w' ⟨rfl, rfl⟩
        go_wp2_with fail
        refine (KC _).mono ?_
        rintro e w' ⟨rfl, rfl⟩
        go_wp2
        refine bodyPost_ret (v := .tuple #[.agg #[.int .i64 0, .int .i64 0, .int .i64 0, .bool false], .int .i64 0, .int .i64 2]) (by simp [results, Try.results13, go_sem]) rfl ⟨rfl, by ((repeat (first | with_reducible refine ba ?_ | with_reducible refine bd ?_ | with_reducible refine bs ?_ (by first | exact Nat.le_refl _ | exact Nat.le_succ _))); exact Below.refl _ _)⟩
      · rw [if_neg (by decide)]
        cases hn : numb k
        · rw [if_neg (by decide)]
          have q0 := QH.out (.cells #[.int .i64 0, .int .i64 0, .int .i64 0, .bool false] 23)
          go_enter Try.func13, Try.ntmps13
          go_wp2_with fail
          refine (modulus_calls m _).mono ?_
          rintro e w' ⟨rfl, rfl⟩
          go_wp2_with fail
          refine (KC _).mono ?_
          rintro e w' ⟨rfl, rfl⟩
          go_wp2_with fail
          refine (numbered_calls k _).mono ?_
          rintro e w' ⟨rfl, rfl⟩
          go_wp2
          refine bodyPost_ret (v := .tuple #[.agg #[.int .i64 k, .int .i64 0, .int .i64 0, .bool (bits .and .u8 x 16 != 0)], .int .i64 1, .int .i64 0]) (by simp [results, Try.results13, go_sem]) rfl ⟨rfl, by ((repeat (first | with_reducible refine ba ?_ | with_reducible refine bd ?_ | with_reducible refine bs ?_ (by first | exact Nat.le_refl _ | exact Nat.le_succ _))); exact Below.refl _ _)⟩
        · rw [if_pos rfl]
          have RC := RC k (.cells #[.int .i64 0, .int .i64 0, .int .i64 0, .bool false] 23)
          generalize rdNum k (splitN l m) = r at *
          obtain ⟨⟨rk, rs, rr, rp⟩, rn, re⟩ := r
          have q0 := QH.out (.cells #[.int .i64 0, .int .i64 0, .int .i64 0, .bool false] 23)
          unfold GivesC cv at RC
          dsimp only at RC
          go_enter Try.func13, Try.ntmps13
          go_wp2_with fail
          refine (modulus_calls m _).mono ?_
          rintro e w' ⟨rfl, rfl⟩
          go_wp2_with fail
          refine (KC _).mono ?_
          rintro e w' ⟨rfl, rfl⟩
          go_wp2_with fail
          refine (numbered_calls k _).mono ?_
          rintro e w' ⟨rfl, rfl⟩
          go_wp2_with fail
          refine RC.mono ?_
          rintro e w' ⟨rfl, bel⟩
          clear RC KC q0
          have hh : w'.heap[w.heap.size]? = some (.cells #[.int .i64 0, .int .i64 0, .int .i64 0, .bool false] 23 (0, 0)) := (bel.block w.heap.size (by simp)).trans (heap_alloc_new w _)
          have k0 : w'.cell? ⟨w.heap.size, 0, none⟩ = some (.int .i64 0) := by rw [cell_of_row w' _ 0 _ _ (0, 0) hh]; rfl
          have k1 : w'.cell? ⟨w.heap.size, 1, none⟩ = some (.int .i64 0) := by rw [cell_of_row w' _ 1 _ _ (0, 0) hh]; rfl
          have k2 : w'.cell? ⟨w.heap.size, 2, none⟩ = some (.int .i64 0) := by rw [cell_of_row w' _ 2 _ _ (0, 0) hh]; rfl
          have k3 : w'.cell? ⟨w.heap.size, 3, none⟩ = some (.bool false) := by rw [cell_of_row w' _ 3 _ _ (0, 0) hh]; rfl
          have f0 : w'.frozen? ⟨w.heap.size, 0, none⟩ = false := frozen_of_row w' _ 0 _ _ hh
          have f1 : w'.frozen? ⟨w.heap.size, 1, none⟩ = false := frozen_of_row w' _ 1 _ _ hh
          have f2 : w'.frozen? ⟨w.heap.size, 2, none⟩ = false := frozen_of_row w' _ 2 _ _ hh
          have f3 : w'.frozen? ⟨w.heap.size, 3, none⟩ = false := frozen_of_row w' _ 3 _ _ hh
          have BB : Below w.heap.size w w' := (ba (Below.refl _ _)).trans (bel.mono (by simp))
          clear bel hh
          go_wp2
          refine bodyPost_ret (v := .tuple #[.agg #[.int .i64 rk, .int .i64 rs, .int .i64 rr, .bool rp], .int .i64 rn, .int .i64 re]) (by simp [results, Try.results13, go_sem, k0, k1, k2, k3]) rfl ⟨rfl, ?_⟩
          exact bs (bs (bs (bs BB (Nat.le_refl _)) (Nat.le_refl _)) (Nat.le_refl _)) (Nat.le_refl _)
end Go.Proofs.Ythakcaofihacdaa

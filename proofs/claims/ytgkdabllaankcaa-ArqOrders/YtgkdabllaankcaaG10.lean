/- Package arq walked, part 10 of 15 (merged texts: CtlRead, AqRead). No condition. -/
import Derived.Test.YtgkdabllaankcaaG9
import Derived.Deep.RegionHeld
import Derived.StillTailTactics
/- The program's Read. Condition: the slice reads as its bytes. -/
namespace Go.Proofs.Ytgkdabllaankcaa
open Go.RowKit
set_option linter.unusedVariables false

theorem split_b (l : List UInt8) (m : Int) : 0 ≤ (splitN l m).1 ∧ (splitN l m).1 < 65536 ∧ 0 ≤ (splitN l m).2.1 ∧ (splitN l m).2.1 < 65536 ∧ ((splitN l m).2.2 = 0 ∨ (splitN l m).2.2 = 2 ∨ (splitN l m).2.2 = 4) := by
  have b0 := bAt_lt l 0
  have b1 := bAt_lt l 1
  have b2 := bAt_lt l 2
  have b3 := bAt_lt l 3
  unfold splitN
  split
  · refine ⟨?_, ?_, ?_, ?_, .inr (.inl rfl)⟩ <;> dsimp only <;> omega
  · split
    · refine ⟨?_, ?_, ?_, ?_, .inr (.inr rfl)⟩ <;> dsimp only <;> omega
    · refine ⟨?_, ?_, ?_, ?_, .inl rfl⟩ <;> decide
/-- what a call that reads a control field returns -/
def GivesC (r : Ctl × Int × Int) (w : World) (e : Ending) (w' : World) : Prop :=
  e = .returned (.tuple #[cv r.1, .int .i64 r.2.1, .int .i64 r.2.2]) ∧ Below w.heap.size w w'
section
variable {w v : World}
theorem ba {o : Obj} (h : Below w.heap.size w v) : Below w.heap.size w (v.alloc o) := h.alloc h.size o
theorem bs {p : Addr} {u : Value} (h : Below w.heap.size w v) (hp : w.heap.size ≤ p.block) : Below w.heap.size w (v.setCell p u) := h.setCell hp u
theorem bd {n : Nat} (h : Below w.heap.size w v) : Below w.heap.size w (v.drewN n) := ⟨h.os, h.tape, h.output, h.size, h.block⟩
end
theorem dec_beq (a b : Int) : decide (a = b) = (a == b) := by by_cases h : a = b <;> simp [h]

set_option maxHeartbeats 800000 in
theorem readNum_calls (k : Int) (A : Option Addr) (c : Nat) (l : List UInt8) (m : Int) (w : World) (hr : Rd w A l) (hl : l.length ≤ 100000) (hm : m = 128 ∨ m = 32768) :
    Calls Try.prog 73 #[.int .i64 k, .slice A l.length c, .int .i64 m] w (GivesC (rdNum k (splitN l m)) w) := by
  have SC := fun o => split_calls A c l m (w.alloc o) (hr.alloc o) hl hm
  have sb := split_b l m
  generalize splitN l m = s at *
  obtain ⟨s1, s2, s3⟩ := s
  simp only at SC sb
  obtain ⟨c1, c2, c3, c4, c5⟩ := sb
  by_cases h0 : s3 = 0
  · subst h0
    rw [show rdNum k (s1, s2, 0) = (zc, 0, 3) from rfl]
    go_enter Try.func73, Try.ntmps73
    go_wp2_with fail
    refine (SC _).mono ?_
    rintro e w' ⟨rfl, n, rfl⟩
    go_wp2
    refine bodyPost_ret (v := .tuple #[.agg #[.int .i64 0, .int .i64 0, .int .i64 0, .bool false], .int .i64 0, .int .i64 3]) (by simp [results, Try.results73, go_sem]) rfl ⟨rfl, by ((repeat (first | with_reducible refine ba ?_ | with_reducible refine bd ?_ | with_reducible refine bs ?_ (by first | exact Nat.le_refl _ | exact Nat.le_succ _))); exact Below.refl _ _)⟩
  · have h0b : (s3 == 0) = false := by simpa using h0
    by_cases hk : k = 0
    · subst hk
      rw [show rdNum 0 (s1, s2, s3) = ((0, s1 / 2, s2 / 2, decide (s2 % 2 = 1)), s3, 0) by unfold rdNum; rw [if_neg h0]; rfl, dec_beq]
      go_enter Try.func73, Try.ntmps73
      go_wp2_with fail
      refine (SC _).mono ?_
      rintro e w' ⟨rfl, n, rfl⟩
      go_wp2
      refine bodyPost_ret (v := .tuple #[.agg #[.int .i64 0, .int .i64 (s1 / 2), .int .i64 (s2 / 2), .bool (s2 % 2 == 1)], .int .i64 s3, .int .i64 0]) (by simp [results, Try.results73, go_sem]) rfl ⟨rfl, by ((repeat (first | with_reducible refine ba ?_ | with_reducible refine bd ?_ | with_reducible refine bs ?_ (by first | exact Nat.le_refl _ | exact Nat.le_succ _))); exact Below.refl _ _)⟩
    · have hkb : (k == 0) = false := by simpa using hk
      by_cases hc : s1 = codeOf k
      · rw [show rdNum k (s1, s2, s3) = ((k, 0, s2 / 2, decide (s2 % 2 = 1)), s3, 0) by unfold rdNum; rw [if_neg h0, if_neg hk, if_pos hc], dec_beq]
        have hcb : (s1 != codeOf k) = false := by simp [hc]
        clear hc
        go_enter Try.func73, Try.ntmps73
        go_wp2_with fail
        refine (SC _).mono ?_
        rintro e w' ⟨rfl, n, rfl⟩
        go_wp2_with fail
        refine (code_calls k _).mono ?_
        rintro e w' ⟨rfl, rfl⟩
        go_wp2
        refine bodyPost_ret (v := .tuple #[.agg #[.int .i64 k, .int .i64 0, .int .i64 (s2 / 2), .bool (s2 % 2 == 1)], .int .i64 s3, .int .i64 0]) (by simp [results, Try.results73, go_sem]) rfl ⟨rfl, by ((repeat (first | with_reducible refine ba ?_ | with_reducible refine bd ?_ | with_reducible refine bs ?_ (by first | exact Nat.le_refl _ | exact Nat.le_succ _))); exact Below.refl _ _)⟩
      · rw [show rdNum k (s1, s2, s3) = (zc, 0, 2) by unfold rdNum; rw [if_neg h0, if_neg hk, if_neg hc]]
        have hcb : (s1 != codeOf k) = true := by simpa using hc
        clear hc
        go_enter Try.func73, Try.ntmps73
        go_wp2_with fail
        refine (SC _).mono ?_
        rintro e w' ⟨rfl, n, rfl⟩
        go_wp2_with fail
        refine (code_calls k _).mono ?_
        rintro e w' ⟨rfl, rfl⟩
        go_wp2
        refine bodyPost_ret (v := .tuple #[.agg #[.int .i64 0, .int .i64 0, .int .i64 0, .bool false], .int .i64 0, .int .i64 2]) (by simp [results, Try.results73, go_sem]) rfl ⟨rfl, by ((repeat (first | with_reducible refine ba ?_ | with_reducible refine bd ?_ | with_reducible refine bs ?_ (by first | exact Nat.le_refl _ | exact Nat.le_succ _))); exact Below.refl _ _)⟩
theorem u8_and16 (x : Int) (h0 : 0 ≤ x) (h1 : x < 256) : (bits .and .u8 x 16 != 0) = decide (x / 16 % 2 = 1) := by
  have key : ∀ n : Fin 256, (bits .and .u8 ((n.val : Nat) : Int) 16 != 0) = decide (((n.val : Nat) : Int) / 16 % 2 = 1) := by decide +kernel
  have := key ⟨x.toNat, by omega⟩
  rw [show (((⟨x.toNat, by omega⟩ : Fin 256).val : Nat) : Int) = x by show ((x.toNat : Nat) : Int) = x; omega] at this
  exact this
set_option maxHeartbeats 1000000 in
theorem read_calls (A : Option Addr) (c : Nat) (l : List UInt8) (m : Int) (w : World) (hr : Rd w A l) (hl : l.length ≤ 100000) :
    Calls Try.prog 57 #[.slice A l.length c, .int .i64 m] w (GivesC (rdC l m) w) := by
  cases hm : isMod m
  · rw [show rdC l m = (zc, 0, 1) by unfold rdC; rw [hm]; rfl]
    go_enter Try.func57, Try.ntmps57
    go_wp2_with fail
    refine (modulus_calls m _).mono ?_
    rintro e w' ⟨rfl, rfl⟩
    go_wp2
    refine bodyPost_ret (v := .tuple #[.agg #[.int .i64 0, .int .i64 0, .int .i64 0, .bool false], .int .i64 0, .int .i64 1]) (by simp [results, Try.results57, go_sem]) rfl ⟨rfl, by ((repeat (first | with_reducible refine ba ?_ | with_reducible refine bd ?_ | with_reducible refine bs ?_ (by first | exact Nat.le_refl _ | exact Nat.le_succ _))); exact Below.refl _ _)⟩
  · by_cases h0 : l = []
    · subst h0
      rw [show rdC [] m = (zc, 0, 3) by unfold rdC; rw [hm]; rfl]
      go_enter Try.func57, Try.ntmps57
      go_wp2_with fail
      refine (modulus_calls m _).mono ?_
      rintro e w' ⟨rfl, rfl⟩
      go_wp2
      refine bodyPost_ret (v := .tuple #[.agg #[.int .i64 0, .int .i64 0, .int .i64 0, .bool false], .int .i64 0, .int .i64 3]) (by simp [results, Try.results57, go_sem]) rfl ⟨rfl, by ((repeat (first | with_reducible refine ba ?_ | with_reducible refine bd ?_ | with_reducible refine bs ?_ (by first | exact Nat.le_refl _ | exact Nat.le_succ _))); exact Below.refl _ _)⟩
    · have hpos : 0 < l.length := List.length_pos_iff.mpr h0
      have hq : rdC l m = (if (kindN (bAt l 0)).2 = false then (zc, 0, 2) else if numb (kindN (bAt l 0)).1 = true then rdNum (kindN (bAt l 0)).1 (splitN l m) else (((kindN (bAt l 0)).1, 0, 0, decide (bAt l 0 / 16 % 2 = 1)), 1, 0)) := by
        unfold rdC
        rw [if_neg (by rw [hm]; decide), if_neg h0]
      rw [hq]
      clear hq
      obtain ⟨b, off, rfl, hb, hc⟩ := hr.bAt 0 hpos
      have q0 : ∀ o, (w.alloc o).cell? ⟨b, off, none⟩ = some (.int .u8 (bAt l 0)) := fun o => ((Below.refl w.heap.size w).alloc (Nat.le_refl _) o).cell (p := ⟨b, off, none⟩) hb |>.trans (hc 0 hpos)
      have b0 := bAt_lt l 0
      have KC := fun v => kindOf_calls (bAt l 0) b0.1 b0.2 v
      have RC := fun k o => readNum_calls k (some ⟨b, off, none⟩) c l m (w.alloc o) (hr.alloc o) hl (of_decide_eq_true hm)
      have P16 := u8_and16 (bAt l 0) b0.1 b0.2
      rw [← P16]
      clear P16 hc hr
      generalize bAt l 0 = x at *
      generalize kindN x = K at *
      obtain ⟨k, ok⟩ := K
      dsimp only at KC ⊢
      generalize hn : l.length = n at *
      have l0 : (0 : Int) < (n : Int) := by omega
      have l1 : ((n : Int) == 0) = false := by simp; omega
      have QH := Lib.hid q0
      clear q0 hn
      cases ok
      · rw [if_pos rfl]
        have q0 := QH.out (.cells #[.int .i64 0, .int .i64 0, .int .i64 0, .bool false] 54)
        go_enter Try.func57, Try.ntmps57
        go_wp2_with fail
        refine (modulus_calls m _).mono ?_
        rintro e w' ⟨rfl, rfl⟩
        go_wp2_with fail
        refine (KC _).mono ?_
        rintro e w' ⟨rfl, rfl⟩
        go_wp2
        refine bodyPost_ret (v := .tuple #[.agg #[.int .i64 0, .int .i64 0, .int .i64 0, .bool false], .int .i64 0, .int .i64 2]) (by simp [results, Try.results57, go_sem]) rfl ⟨rfl, by ((repeat (first | with_reducible refine ba ?_ | with_reducible refine bd ?_ | with_reducible refine bs ?_ (by first | exact Nat.le_refl _ | exact Nat.le_succ _))); exact Below.refl _ _)⟩
      · rw [if_neg (by decide)]
        cases hn : numb k
        · rw [if_neg (by decide)]
          have q0 := QH.out (.cells #[.int .i64 0, .int .i64 0, .int .i64 0, .bool false] 54)
          go_enter Try.func57, Try.ntmps57
          go_wp2_with fail
          refine (modulus_calls m _).mono ?_
          rintro e w' ⟨rfl, rfl⟩
          go_wp2_with fail
          refine (KC _).mono ?_
          rintro e w' ⟨rfl, rfl⟩
          go_wp2_with fail
          refine (numbered_calls k _).mono ?_
          rintro e w' ⟨rfl, rfl⟩
          go_wp2
          refine bodyPost_ret (v := .tuple #[.agg #[.int .i64 k, .int .i64 0, .int .i64 0, .bool (bits .and .u8 x 16 != 0)], .int .i64 1, .int .i64 0]) (by simp [results, Try.results57, go_sem]) rfl ⟨rfl, by ((repeat (first | with_reducible refine ba ?_ | with_reducible refine bd ?_ | with_reducible refine bs ?_ (by first | exact Nat.le_refl _ | exact Nat.le_succ _))); exact Below.refl _ _)⟩
        · rw [if_pos rfl]
          have RC := RC k (.cells #[.int .i64 0, .int .i64 0, .int .i64 0, .bool false] 54)
          generalize rdNum k (splitN l m) = r at *
          obtain ⟨⟨rk, rs, rr, rp⟩, rn, re⟩ := r
          have q0 := QH.out (.cells #[.int .i64 0, .int .i64 0, .int .i64 0, .bool false] 54)
          unfold GivesC cv at RC
          dsimp only at RC
          go_enter Try.func57, Try.ntmps57
          go_wp2_with fail
          refine (modulus_calls m _).mono ?_
          rintro e w' ⟨rfl, rfl⟩
          go_wp2_with fail
          refine (KC _).mono ?_
          rintro e w' ⟨rfl, rfl⟩
          go_wp2_with fail
          refine (numbered_calls k _).mono ?_
          rintro e w' ⟨rfl, rfl⟩
          go_wp2_with fail
          refine RC.mono ?_
          rintro e w' ⟨rfl, bel⟩
          clear RC KC q0
          have hh : w'.heap[w.heap.size]? = some (.cells #[.int .i64 0, .int .i64 0, .int .i64 0, .bool false] 54 (0, 0)) := (bel.block w.heap.size (by simp)).trans (heap_alloc_new w _)
          have k0 : w'.cell? ⟨w.heap.size, 0, none⟩ = some (.int .i64 0) := by rw [cell_of_row w' _ 0 _ _ (0, 0) hh]; rfl
          have k1 : w'.cell? ⟨w.heap.size, 1, none⟩ = some (.int .i64 0) := by rw [cell_of_row w' _ 1 _ _ (0, 0) hh]; rfl
          have k2 : w'.cell? ⟨w.heap.size, 2, none⟩ = some (.int .i64 0) := by rw [cell_of_row w' _ 2 _ _ (0, 0) hh]; rfl
          have k3 : w'.cell? ⟨w.heap.size, 3, none⟩ = some (.bool false) := by rw [cell_of_row w' _ 3 _ _ (0, 0) hh]; rfl
          have f0 : w'.frozen? ⟨w.heap.size, 0, none⟩ = false := frozen_of_row w' _ 0 _ _ hh
          have f1 : w'.frozen? ⟨w.heap.size, 1, none⟩ = false := frozen_of_row w' _ 1 _ _ hh
          have f2 : w'.frozen? ⟨w.heap.size, 2, none⟩ = false := frozen_of_row w' _ 2 _ _ hh
          have f3 : w'.frozen? ⟨w.heap.size, 3, none⟩ = false := frozen_of_row w' _ 3 _ _ hh
          have BB : Below w.heap.size w w' := (ba (Below.refl _ _)).trans (bel.mono (by simp))
          clear bel hh
          go_wp2
          refine bodyPost_ret (v := .tuple #[.agg #[.int .i64 rk, .int .i64 rs, .int .i64 rr, .bool rp], .int .i64 rn, .int .i64 re]) (by simp [results, Try.results57, go_sem, k0, k1, k2, k3]) rfl ⟨rfl, ?_⟩
          exact bs (bs (bs (bs BB (Nat.le_refl _)) (Nat.le_refl _)) (Nat.le_refl _)) (Nat.le_refl _)
end Go.Proofs.Ytgkdabllaankcaa
/- read and Input of an end of a session. Condition: room for outputs, indications, messages; the input reads as its octets. -/
namespace Go.Proofs.Ytgkdabllaankcaa
open Go.RowKit
set_option linter.unusedVariables false

section
variable {w : World} {F : Nat → Prop} {b : Nat} {s : Aq} {X : Option Addr} {e : Nat}
/-- an output taken apart: its parts, and where its message lies -/
def AqRd (s : Aq) (X : Option Addr) (x : List UInt8) (w : World) (e : Ending) (w' : World) : Prop :=
  Below w.heap.size w w' ∧ ((¬ (x.length < 2) ∧ (rdC (x.drop 2) s.m).2.2 = 0 ∧ ∃ Y d, e = .returned (.tuple #[rvv (Aq.tagOf x) (rdC (x.drop 2) s.m).1.1 (rdC (x.drop 2) s.m).1.2.1 (rdC (x.drop 2) s.m).1.2.2.1 (rdC (x.drop 2) s.m).1.2.2.2 Y (x.drop (2 + (rdC (x.drop 2) s.m).2.1.toNat)).length d, .bool true]) ∧ Rd w Y (x.drop (2 + (rdC (x.drop 2) s.m).2.1.toNat)) ∧ ∀ k, blk Y = some k → blk X = some k) ∨
    ((x.length < 2 ∨ (rdC (x.drop 2) s.m).2.2 ≠ 0) ∧ e = .returned (.tuple #[rvv 0 0 0 0 false none 0 0, .bool false])))
set_option maxHeartbeats 1000000 in
/-- what was received comes into its box -/
theorem rcv_box (V : World) (n : Nat) (t k ns nr : Int) (p : Bool) (A : Option Addr) (l c : Nat) (h0 : V.heap[n]? = some (.cells #[.int .i64 0, .int .i64 0, .int .i64 0, .int .i64 0, .bool false, .slice none 0 0] 75 (0, 0))) :
    (V.cell? ⟨n, 0, none⟩ = some (.int .i64 0) ∧ V.cell? ⟨n, 1, none⟩ = some (.int .i64 0) ∧ V.cell? ⟨n, 2, none⟩ = some (.int .i64 0) ∧ V.cell? ⟨n, 3, none⟩ = some (.int .i64 0) ∧ V.cell? ⟨n, 4, none⟩ = some (.bool false) ∧ V.cell? ⟨n, 5, none⟩ = some (.slice none 0 0)) ∧
    (V.frozen? ⟨n, 0, none⟩ = false ∧ V.frozen? ⟨n, 1, none⟩ = false ∧ V.frozen? ⟨n, 2, none⟩ = false ∧ V.frozen? ⟨n, 3, none⟩ = false ∧ V.frozen? ⟨n, 4, none⟩ = false ∧ V.frozen? ⟨n, 5, none⟩ = false) ∧
    (((V.setCell ⟨n, 0, none⟩ (.int .i64 t)).cell? ⟨n, 1, none⟩ = some (.int .i64 0) ∧ (V.setCell ⟨n, 0, none⟩ (.int .i64 t)).frozen? ⟨n, 1, none⟩ = false) ∧ (((V.setCell ⟨n, 0, none⟩ (.int .i64 t)).setCell ⟨n, 1, none⟩ (.int .i64 k)).cell? ⟨n, 2, none⟩ = some (.int .i64 0) ∧ ((V.setCell ⟨n, 0, none⟩ (.int .i64 t)).setCell ⟨n, 1, none⟩ (.int .i64 k)).frozen? ⟨n, 2, none⟩ = false) ∧ ((((V.setCell ⟨n, 0, none⟩ (.int .i64 t)).setCell ⟨n, 1, none⟩ (.int .i64 k)).setCell ⟨n, 2, none⟩ (.int .i64 ns)).cell? ⟨n, 3, none⟩ = some (.int .i64 0) ∧ (((V.setCell ⟨n, 0, none⟩ (.int .i64 t)).setCell ⟨n, 1, none⟩ (.int .i64 k)).setCell ⟨n, 2, none⟩ (.int .i64 ns)).frozen? ⟨n, 3, none⟩ = false) ∧ (((((V.setCell ⟨n, 0, none⟩ (.int .i64 t)).setCell ⟨n, 1, none⟩ (.int .i64 k)).setCell ⟨n, 2, none⟩ (.int .i64 ns)).setCell ⟨n, 3, none⟩ (.int .i64 nr)).cell? ⟨n, 4, none⟩ = some (.bool false) ∧ ((((V.setCell ⟨n, 0, none⟩ (.int .i64 t)).setCell ⟨n, 1, none⟩ (.int .i64 k)).setCell ⟨n, 2, none⟩ (.int .i64 ns)).setCell ⟨n, 3, none⟩ (.int .i64 nr)).frozen? ⟨n, 4, none⟩ = false) ∧ ((((((V.setCell ⟨n, 0, none⟩ (.int .i64 t)).setCell ⟨n, 1, none⟩ (.int .i64 k)).setCell ⟨n, 2, none⟩ (.int .i64 ns)).setCell ⟨n, 3, none⟩ (.int .i64 nr)).setCell ⟨n, 4, none⟩ (.bool p)).cell? ⟨n, 5, none⟩ = some (.slice none 0 0) ∧ (((((V.setCell ⟨n, 0, none⟩ (.int .i64 t)).setCell ⟨n, 1, none⟩ (.int .i64 k)).setCell ⟨n, 2, none⟩ (.int .i64 ns)).setCell ⟨n, 3, none⟩ (.int .i64 nr)).setCell ⟨n, 4, none⟩ (.bool p)).frozen? ⟨n, 5, none⟩ = false)) ∧
    ∃ V6, (((((V.setCell ⟨n, 0, none⟩ (.int .i64 t)).setCell ⟨n, 1, none⟩ (.int .i64 k)).setCell ⟨n, 2, none⟩ (.int .i64 ns)).setCell ⟨n, 3, none⟩ (.int .i64 nr)).setCell ⟨n, 4, none⟩ (.bool p)).setCell ⟨n, 5, none⟩ (.slice A l c) = V6 ∧ Only (fun i => i = n) V V6 ∧ V6.cell? ⟨n, 0, none⟩ = some (.int .i64 t) ∧ V6.cell? ⟨n, 1, none⟩ = some (.int .i64 k) ∧ V6.cell? ⟨n, 2, none⟩ = some (.int .i64 ns) ∧ V6.cell? ⟨n, 3, none⟩ = some (.int .i64 nr) ∧ V6.cell? ⟨n, 4, none⟩ = some (.bool p) ∧ V6.cell? ⟨n, 5, none⟩ = some (.slice A l c) := by
  have h1 := heap_setCell_same _ n 0 _ _ (.int .i64 t) h0
  have h2 := heap_setCell_same _ n 1 _ _ (.int .i64 k) h1
  have h3 := heap_setCell_same _ n 2 _ _ (.int .i64 ns) h2
  have h4 := heap_setCell_same _ n 3 _ _ (.int .i64 nr) h3
  have h5 := heap_setCell_same _ n 4 _ _ (.bool p) h4
  have h6 := heap_setCell_same _ n 5 _ _ (.slice A l c) h5
  obtain ⟨V6, hV6⟩ : ∃ V6, (((((V.setCell ⟨n, 0, none⟩ (.int .i64 t)).setCell ⟨n, 1, none⟩ (.int .i64 k)).setCell ⟨n, 2, none⟩ (.int .i64 ns)).setCell ⟨n, 3, none⟩ (.int .i64 nr)).setCell ⟨n, 4, none⟩ (.bool p)).setCell ⟨n, 5, none⟩ (.slice A l c) = V6 := ⟨_, rfl⟩
  have on6 : Only (fun i => i = n) V V6 := by rw [← hV6]; exact (((((((Only.refl (fun i => i = n) V).setCell (p := ⟨n, 0, none⟩) (.inl rfl) _).setCell (p := ⟨n, 1, none⟩) (.inl rfl) _).setCell (p := ⟨n, 2, none⟩) (.inl rfl) _).setCell (p := ⟨n, 3, none⟩) (.inl rfl) _).setCell (p := ⟨n, 4, none⟩) (.inl rfl) _).setCell (p := ⟨n, 5, none⟩) (.inl rfl) _)
  rw [hV6] at h6
  refine ⟨⟨by rw [cell_of_row _ _ _ _ _ (0, 0) h0]; rfl, by rw [cell_of_row _ _ _ _ _ (0, 0) h0]; rfl, by rw [cell_of_row _ _ _ _ _ (0, 0) h0]; rfl, by rw [cell_of_row _ _ _ _ _ (0, 0) h0]; rfl, by rw [cell_of_row _ _ _ _ _ (0, 0) h0]; rfl, by rw [cell_of_row _ _ _ _ _ (0, 0) h0]; rfl⟩, ⟨frozen_of_row _ _ _ _ _ h0, frozen_of_row _ _ _ _ _ h0, frozen_of_row _ _ _ _ _ h0, frozen_of_row _ _ _ _ _ h0, frozen_of_row _ _ _ _ _ h0, frozen_of_row _ _ _ _ _ h0⟩, ⟨⟨by rw [cell_of_row _ _ _ _ _ (0, 0) h1]; rfl, frozen_of_row _ _ _ _ _ h1⟩, ⟨by rw [cell_of_row _ _ _ _ _ (0, 0) h2]; rfl, frozen_of_row _ _ _ _ _ h2⟩, ⟨by rw [cell_of_row _ _ _ _ _ (0, 0) h3]; rfl, frozen_of_row _ _ _ _ _ h3⟩, ⟨by rw [cell_of_row _ _ _ _ _ (0, 0) h4]; rfl, frozen_of_row _ _ _ _ _ h4⟩, ⟨by rw [cell_of_row _ _ _ _ _ (0, 0) h5]; rfl, frozen_of_row _ _ _ _ _ h5⟩⟩, V6, hV6, on6, by rw [cell_of_row _ _ _ _ _ (0, 0) h6]; rfl, by rw [cell_of_row _ _ _ _ _ (0, 0) h6]; rfl, by rw [cell_of_row _ _ _ _ _ (0, 0) h6]; rfl, by rw [cell_of_row _ _ _ _ _ (0, 0) h6]; rfl, by rw [cell_of_row _ _ _ _ _ (0, 0) h6]; rfl, by rw [cell_of_row _ _ _ _ _ (0, 0) h6]; rfl⟩
theorem rdC_good {l : List UInt8} {m : Int} {r : Ctl × Int × Int} (h : rdC l m = r) (h0 : r.2.2 = 0) : ∃ n : Nat, r.2.1 = (n : Int) ∧ 1 ≤ n ∧ n ≤ 4 ∧ n ≤ l.length ∧ 0 ≤ r.1.1 ∧ r.1.1 ≤ 7 ∧ 0 ≤ r.1.2.1 ∧ r.1.2.1 < 65536 ∧ 0 ≤ r.1.2.2.1 ∧ r.1.2.2.1 < 65536 := by
  subst h
  have sb := split_b l m
  have hk : 0 ≤ (kindN (bAt l 0)).1 ∧ (kindN (bAt l 0)).1 ≤ 7 := by
    unfold kindN
    repeat' split
    all_goals exact ⟨by decide, by decide⟩
  have hl : (splitN l m).2.2 = 0 ∨ ((splitN l m).2.2 = 2 ∧ 2 ≤ l.length) ∨ ((splitN l m).2.2 = 4 ∧ 4 ≤ l.length) := by
    unfold splitN
    split
    · next h => exact .inr (.inl ⟨rfl, h.2⟩)
    · split
      · next h => exact .inr (.inr ⟨rfl, h.2⟩)
      · exact .inl rfl
  unfold rdC at h0 ⊢
  split at h0
  · cases h0
  next q1 =>
  rw [if_neg q1]
  split at h0
  · cases h0
  next q2 =>
  rw [if_neg q2]
  split at h0
  · cases h0
  next q3 =>
  rw [if_neg q3]
  have hlen : 1 ≤ l.length := by rcases l with _ | ⟨y, l⟩; exact absurd rfl q2; simp
  split at h0
  · next q4 =>
    rw [if_pos q4]
    unfold rdNum at h0 ⊢
    split at h0
    · cases h0
    next q5 =>
    rw [if_neg q5]
    split at h0
    · next q6 =>
      rw [if_pos q6]
      dsimp only
      rcases hl with hl | ⟨hl, hl2⟩ | ⟨hl, hl2⟩
      · exact absurd hl q5
      · exact ⟨2, by rw [hl]; rfl, by omega, by omega, hl2, by omega, by omega, by omega, by omega, by omega, by omega⟩
      · exact ⟨4, by rw [hl]; rfl, by omega, by omega, hl2, by omega, by omega, by omega, by omega, by omega, by omega⟩
    next q6 =>
    rw [if_neg q6]
    split at h0
    · next q7 =>
      rw [if_pos q7]
      dsimp only
      rcases hl with hl | ⟨hl, hl2⟩ | ⟨hl, hl2⟩
      · exact absurd hl q5
      · exact ⟨2, by rw [hl]; rfl, by omega, by omega, hl2, by omega, by omega, by omega, by omega, by omega, by omega⟩
      · exact ⟨4, by rw [hl]; rfl, by omega, by omega, hl2, by omega, by omega, by omega, by omega, by omega, by omega⟩
    · cases h0
  · next q4 =>
    rw [if_neg q4]
    dsimp only
    exact ⟨1, rfl, by omega, by omega, hlen, hk.1, hk.2, by omega, by omega, by omega, by omega⟩
theorem tag_or {a c : Nat} (ha : a < 256) (hc : c < 256) : bits .or .i64 ((a : Int) * 256) (c : Int) = ((a * 256 + c : Nat) : Int) := by
  have e1 : (a : Int) * 256 = ((a * 256 : Nat) : Int) := by omega
  show IntKind.i64.wrap ((BitVec.ofInt 64 ((a : Int) * 256) ||| BitVec.ofInt 64 (c : Int)).toNat : Nat) = _
  rw [e1, BitVec.toNat_or, BitVec.toNat_ofInt, BitVec.toNat_ofInt]
  have e2 : (((a * 256 : Nat) : Int) % ((2 ^ 64 : Nat) : Int)).toNat = a * 256 := by omega
  have e3 : (((c : Nat) : Int) % ((2 ^ 64 : Nat) : Int)).toNat = c := by omega
  rw [e2, e3]
  have e4 : a * 256 ||| c = a * 256 + c := by
    have := Nat.shiftLeft_add_eq_or_of_lt (b := c) (i := 8) (by omega) a
    rw [Nat.shiftLeft_eq] at this
    exact this.symm
  rw [e4, IntKind.wrap_i64]
  omega
/-- a control field comes into a box of its own -/
theorem ctl_box (V : World) (n : Nat) (k ns nr : Int) (p : Bool) (h0 : V.heap[n]? = some (.cells #[.int .i64 0, .int .i64 0, .int .i64 0, .bool false] 54 (0, 0))) :
    (V.cell? ⟨n, 0, none⟩ = some (.int .i64 0) ∧ V.cell? ⟨n, 1, none⟩ = some (.int .i64 0) ∧ V.cell? ⟨n, 2, none⟩ = some (.int .i64 0) ∧ V.cell? ⟨n, 3, none⟩ = some (.bool false)) ∧
    (V.frozen? ⟨n, 0, none⟩ = false ∧ V.frozen? ⟨n, 1, none⟩ = false ∧ V.frozen? ⟨n, 2, none⟩ = false ∧ V.frozen? ⟨n, 3, none⟩ = false) ∧
    (((V.setCell ⟨n, 0, none⟩ (.int .i64 k)).cell? ⟨n, 1, none⟩ = some (.int .i64 0) ∧ (V.setCell ⟨n, 0, none⟩ (.int .i64 k)).frozen? ⟨n, 1, none⟩ = false) ∧
    (((V.setCell ⟨n, 0, none⟩ (.int .i64 k)).setCell ⟨n, 1, none⟩ (.int .i64 ns)).cell? ⟨n, 2, none⟩ = some (.int .i64 0) ∧ ((V.setCell ⟨n, 0, none⟩ (.int .i64 k)).setCell ⟨n, 1, none⟩ (.int .i64 ns)).frozen? ⟨n, 2, none⟩ = false) ∧
    ((((V.setCell ⟨n, 0, none⟩ (.int .i64 k)).setCell ⟨n, 1, none⟩ (.int .i64 ns)).setCell ⟨n, 2, none⟩ (.int .i64 nr)).cell? ⟨n, 3, none⟩ = some (.bool false) ∧ (((V.setCell ⟨n, 0, none⟩ (.int .i64 k)).setCell ⟨n, 1, none⟩ (.int .i64 ns)).setCell ⟨n, 2, none⟩ (.int .i64 nr)).frozen? ⟨n, 3, none⟩ = false)) ∧
    ∃ V4, (((V.setCell ⟨n, 0, none⟩ (.int .i64 k)).setCell ⟨n, 1, none⟩ (.int .i64 ns)).setCell ⟨n, 2, none⟩ (.int .i64 nr)).setCell ⟨n, 3, none⟩ (.bool p) = V4 ∧ Only (fun i => i = n) V V4 ∧ V4.cell? ⟨n, 0, none⟩ = some (.int .i64 k) ∧ V4.cell? ⟨n, 1, none⟩ = some (.int .i64 ns) ∧ V4.cell? ⟨n, 2, none⟩ = some (.int .i64 nr) ∧ V4.cell? ⟨n, 3, none⟩ = some (.bool p) := by
  have h1 := heap_setCell_same V n 0 _ _ (.int .i64 k) h0
  have h2 := heap_setCell_same _ n 1 _ _ (.int .i64 ns) h1
  have h3 := heap_setCell_same _ n 2 _ _ (.int .i64 nr) h2
  have h4 := heap_setCell_same _ n 3 _ _ (.bool p) h3
  refine ⟨⟨?_, ?_, ?_, ?_⟩, ⟨frozen_of_row _ _ _ _ _ h0, frozen_of_row _ _ _ _ _ h0, frozen_of_row _ _ _ _ _ h0, frozen_of_row _ _ _ _ _ h0⟩, ⟨⟨?_, frozen_of_row _ _ _ _ _ h1⟩, ⟨?_, frozen_of_row _ _ _ _ _ h2⟩, ⟨?_, frozen_of_row _ _ _ _ _ h3⟩⟩, _, rfl, ?_, ?_, ?_, ?_, ?_⟩
  case refine_8 => exact ((((Only.refl (fun i => i = n) V).setCell (p := ⟨n, 0, none⟩) (.inl rfl) _).setCell (p := ⟨n, 1, none⟩) (.inl rfl) _).setCell (p := ⟨n, 2, none⟩) (.inl rfl) _).setCell (p := ⟨n, 3, none⟩) (.inl rfl) _
  all_goals first | (rw [cell_of_row _ _ _ _ _ (0, 0) h0]; rfl) | (rw [cell_of_row _ _ _ _ _ (0, 0) h1]; rfl) | (rw [cell_of_row _ _ _ _ _ (0, 0) h2]; rfl) | (rw [cell_of_row _ _ _ _ _ (0, 0) h3]; rfl) | (rw [cell_of_row _ _ _ _ _ (0, 0) h4]; rfl)
set_option maxRecDepth 20000 in
set_option maxHeartbeats 2000000 in
theorem aqRead_calls (h : AqP w F b s) (x : List UInt8) (hr : Rd w X x) (hx : x.length ≤ 90000) (hxe : x.length ≤ e) (he : e ≤ 9223372036854775807) :
    Calls Try.prog 39 #[.pointer (some ⟨b, 0, none⟩), .slice X x.length e] w (AqRd s X x w) := by
  by_cases h1 : x.length < 2
  · have g : (x.length : Int) < 2 := by omega
    have FI := Lib.hid (show ∀ v, Below w.heap.size w v → AqRd s X x w (.returned (.tuple #[rvv 0 0 0 0 false none 0 0, .bool false])) v from fun v hb => ⟨hb, .inr ⟨.inl h1, rfl⟩⟩)
    clear hr h h1
    go_enter Try.func39, Try.ntmps39
    go_wp2
    refine bodyPost_ret (v := .tuple #[.agg #[.int .i64 0, .int .i64 0, .int .i64 0, .int .i64 0, .bool false, .slice none 0 0], .bool false]) (by simp [results, Try.results39, go_sem]) rfl ?_
    exact FI.out _ ((Below.refl _ _).alloc (Nat.le_refl _) _)
  · obtain ⟨g, off, rfl, hcells⟩ := hr (by rintro rfl; simp at h1)
    have c0 := h.c0
    have hbl := lt_of_block h.cells.choose_spec
    have hgl : g < w.heap.size := World.block_lt_of_cell? w _ (hcells 0 (by omega))
    by_cases he2 : e = 2
    · subst he2
      have hx2 : x.length = 2 := by omega
      have hd2 : x.drop 2 = [] := List.drop_eq_nil_of_le (by omega)
      obtain ⟨W0, hW0⟩ : ∃ W0, w.alloc (.cells #[.int .i64 0, .int .i64 0, .int .i64 0, .int .i64 0, .bool false, .slice none 0 0] 75) = W0 := ⟨_, rfl⟩
      have be0 : Below w.heap.size w W0 := by rw [← hW0]; exact (Below.refl _ _).alloc (Nat.le_refl _) _
      have RC := fun v (be : Below w.heap.size w v) => read_calls (some ⟨g, off, none⟩) 0 (x.drop 2) s.m v (by rw [hd2]; exact Rd.nil _ _) (by rw [hd2]; exact Nat.zero_le _)
      simp only [List.length_drop, show x.length - 2 = 0 by omega] at RC
      unfold GivesC cv at RC
      generalize hrr : rdC (x.drop 2) s.m = r at *
      obtain ⟨⟨rk, rns, rnr, rp⟩, rl, re⟩ := r
      dsimp only at RC
      have be1 : Below W0.heap.size W0 W0.drew := (Below.refl _ _).drew
      have be2 : Below W0.heap.size W0 (W0.alloc (.cells #[.int .i64 0, .int .i64 0, .int .i64 0, .bool false] 54)).drew := ((Below.refl _ _).alloc (Nat.le_refl _) _).drew
      have RC1 := RC _ (be0.trans (be1.mono be0.size))
      have RC2 := RC _ (be0.trans (be2.mono be0.size))
      have g1 : ¬ (x.length : Int) < 2 := by omega
      have g2 : (2 : Int) ≤ (x.length : Int) := by omega
      have g3 : (x.length : Int) ≤ 2 := by omega
      have HK := Lib.hid (show ∀ v, Below W0.heap.size W0 v → v.cell? ⟨b, 0, none⟩ = some (.int .i64 (s.m : Int)) from fun v hv => ((be0.trans (hv.mono be0.size)).cell hbl).trans c0)
      have BA2 : ∀ w1 V4, Below (W0.alloc (.cells #[.int .i64 0, .int .i64 0, .int .i64 0, .bool false] 54)).drew.heap.size (W0.alloc (.cells #[.int .i64 0, .int .i64 0, .int .i64 0, .bool false] 54)).drew w1 → Only (fun i => i = W0.heap.size) w1 V4 → Below W0.heap.size W0 V4 := fun w1 V4 b3 on => by
        have b4 := be2.trans (b3.mono be2.size)
        exact b4.trans (on.below (fun i hi => by rw [hi]; omega) b4.size)
      have BX : ∀ w1, Below (W0.alloc (.cells #[.int .i64 0, .int .i64 0, .int .i64 0, .bool false] 54)).drew.heap.size (W0.alloc (.cells #[.int .i64 0, .int .i64 0, .int .i64 0, .bool false] 54)).drew w1 → w1.heap[W0.heap.size]? = some (.cells #[.int .i64 0, .int .i64 0, .int .i64 0, .bool false] 54 (0, 0)) := fun w1 b3 => by
        rw [b3.block W0.heap.size (by show _ < (W0.alloc _).heap.size; simp)]
        exact heap_alloc_new W0 _
      have AR1 := Lib.hid (show ∀ w1, Below W0.drew.heap.size W0.drew w1 → ((w1.alloc (.cells #[.int .i64 0, .int .i64 0, .int .i64 0, .bool false] 54)).cell? ⟨w1.heap.size, 0, none⟩ = some (.int .i64 0) ∧ (w1.alloc (.cells #[.int .i64 0, .int .i64 0, .int .i64 0, .bool false] 54)).cell? ⟨w1.heap.size, 1, none⟩ = some (.int .i64 0) ∧ (w1.alloc (.cells #[.int .i64 0, .int .i64 0, .int .i64 0, .bool false] 54)).cell? ⟨w1.heap.size, 2, none⟩ = some (.int .i64 0) ∧ (w1.alloc (.cells #[.int .i64 0, .int .i64 0, .int .i64 0, .bool false] 54)).cell? ⟨w1.heap.size, 3, none⟩ = some (.bool false)) ∧ ((w1.alloc (.cells #[.int .i64 0, .int .i64 0, .int .i64 0, .bool false] 54)).frozen? ⟨w1.heap.size, 0, none⟩ = false ∧ (w1.alloc (.cells #[.int .i64 0, .int .i64 0, .int .i64 0, .bool false] 54)).frozen? ⟨w1.heap.size, 1, none⟩ = false ∧ (w1.alloc (.cells #[.int .i64 0, .int .i64 0, .int .i64 0, .bool false] 54)).frozen? ⟨w1.heap.size, 2, none⟩ = false ∧ (w1.alloc (.cells #[.int .i64 0, .int .i64 0, .int .i64 0, .bool false] 54)).frozen? ⟨w1.heap.size, 3, none⟩ = false) ∧ ((((w1.alloc (.cells #[.int .i64 0, .int .i64 0, .int .i64 0, .bool false] 54)).setCell ⟨w1.heap.size, 0, none⟩ (.int .i64 rk)).cell? ⟨w1.heap.size, 1, none⟩ = some (.int .i64 0) ∧ ((w1.alloc (.cells #[.int .i64 0, .int .i64 0, .int .i64 0, .bool false] 54)).setCell ⟨w1.heap.size, 0, none⟩ (.int .i64 rk)).frozen? ⟨w1.heap.size, 1, none⟩ = false) ∧ ((((w1.alloc (.cells #[.int .i64 0, .int .i64 0, .int .i64 0, .bool false] 54)).setCell ⟨w1.heap.size, 0, none⟩ (.int .i64 rk)).setCell ⟨w1.heap.size, 1, none⟩ (.int .i64 rns)).cell? ⟨w1.heap.size, 2, none⟩ = some (.int .i64 0) ∧ (((w1.alloc (.cells #[.int .i64 0, .int .i64 0, .int .i64 0, .bool false] 54)).setCell ⟨w1.heap.size, 0, none⟩ (.int .i64 rk)).setCell ⟨w1.heap.size, 1, none⟩ (.int .i64 rns)).frozen? ⟨w1.heap.size, 2, none⟩ = false) ∧ (((((w1.alloc (.cells #[.int .i64 0, .int .i64 0, .int .i64 0, .bool false] 54)).setCell ⟨w1.heap.size, 0, none⟩ (.int .i64 rk)).setCell ⟨w1.heap.size, 1, none⟩ (.int .i64 rns)).setCell ⟨w1.heap.size, 2, none⟩ (.int .i64 rnr)).cell? ⟨w1.heap.size, 3, none⟩ = some (.bool false) ∧ ((((w1.alloc (.cells #[.int .i64 0, .int .i64 0, .int .i64 0, .bool false] 54)).setCell ⟨w1.heap.size, 0, none⟩ (.int .i64 rk)).setCell ⟨w1.heap.size, 1, none⟩ (.int .i64 rns)).setCell ⟨w1.heap.size, 2, none⟩ (.int .i64 rnr)).frozen? ⟨w1.heap.size, 3, none⟩ = false)) ∧ ∃ V4, w1.alloc (.cells #[.int .i64 rk, .int .i64 rns, .int .i64 rnr, .bool rp] 54) = V4 ∧ Below W0.heap.size W0 V4 ∧ V4.cell? ⟨w1.heap.size, 0, none⟩ = some (.int .i64 rk) ∧ V4.cell? ⟨w1.heap.size, 1, none⟩ = some (.int .i64 rns) ∧ V4.cell? ⟨w1.heap.size, 2, none⟩ = some (.int .i64 rnr) ∧ V4.cell? ⟨w1.heap.size, 3, none⟩ = some (.bool rp) ∧ w1.cell? ⟨b, 0, none⟩ = some (.int .i64 (s.m : Int)) ∧ (w1.alloc (.cells #[.int .i64 0, .int .i64 0, .int .i64 0, .bool false] 54)).cell? ⟨b, 0, none⟩ = some (.int .i64 (s.m : Int)) ∧ V4.cell? ⟨b, 0, none⟩ = some (.int .i64 (s.m : Int)) from fun w1 be3 => by
        have hB1 := be1.trans (be3.mono be1.size)
        obtain ⟨q1, q2, q3, _⟩ := ctl_box (w1.alloc (.cells #[.int .i64 0, .int .i64 0, .int .i64 0, .bool false] 54)) w1.heap.size rk rns rnr rp (heap_alloc_new w1 _)
        exact ⟨q1, q2, q3, _, rfl, hB1.alloc hB1.size _, new_cell w1 _ 0 rfl, new_cell w1 _ 1 rfl, new_cell w1 _ 2 rfl, new_cell w1 _ 3 rfl, HK.out _ hB1, HK.out _ (hB1.alloc hB1.size _), HK.out _ (hB1.alloc hB1.size _)⟩)
      have AR2 := Lib.hid (show ∀ w1, Below (W0.alloc (.cells #[.int .i64 0, .int .i64 0, .int .i64 0, .bool false] 54)).drew.heap.size (W0.alloc (.cells #[.int .i64 0, .int .i64 0, .int .i64 0, .bool false] 54)).drew w1 → (w1.cell? ⟨W0.heap.size, 0, none⟩ = some (.int .i64 0) ∧ w1.cell? ⟨W0.heap.size, 1, none⟩ = some (.int .i64 0) ∧ w1.cell? ⟨W0.heap.size, 2, none⟩ = some (.int .i64 0) ∧ w1.cell? ⟨W0.heap.size, 3, none⟩ = some (.bool false)) ∧
          (w1.frozen? ⟨W0.heap.size, 0, none⟩ = false ∧ w1.frozen? ⟨W0.heap.size, 1, none⟩ = false ∧ w1.frozen? ⟨W0.heap.size, 2, none⟩ = false ∧ w1.frozen? ⟨W0.heap.size, 3, none⟩ = false) ∧
          (((w1.setCell ⟨W0.heap.size, 0, none⟩ (.int .i64 rk)).cell? ⟨W0.heap.size, 1, none⟩ = some (.int .i64 0) ∧ (w1.setCell ⟨W0.heap.size, 0, none⟩ (.int .i64 rk)).frozen? ⟨W0.heap.size, 1, none⟩ = false) ∧
          (((w1.setCell ⟨W0.heap.size, 0, none⟩ (.int .i64 rk)).setCell ⟨W0.heap.size, 1, none⟩ (.int .i64 rns)).cell? ⟨W0.heap.size, 2, none⟩ = some (.int .i64 0) ∧ ((w1.setCell ⟨W0.heap.size, 0, none⟩ (.int .i64 rk)).setCell ⟨W0.heap.size, 1, none⟩ (.int .i64 rns)).frozen? ⟨W0.heap.size, 2, none⟩ = false) ∧
          ((((w1.setCell ⟨W0.heap.size, 0, none⟩ (.int .i64 rk)).setCell ⟨W0.heap.size, 1, none⟩ (.int .i64 rns)).setCell ⟨W0.heap.size, 2, none⟩ (.int .i64 rnr)).cell? ⟨W0.heap.size, 3, none⟩ = some (.bool false) ∧ (((w1.setCell ⟨W0.heap.size, 0, none⟩ (.int .i64 rk)).setCell ⟨W0.heap.size, 1, none⟩ (.int .i64 rns)).setCell ⟨W0.heap.size, 2, none⟩ (.int .i64 rnr)).frozen? ⟨W0.heap.size, 3, none⟩ = false)) ∧
          ∃ V4, (((w1.setCell ⟨W0.heap.size, 0, none⟩ (.int .i64 rk)).setCell ⟨W0.heap.size, 1, none⟩ (.int .i64 rns)).setCell ⟨W0.heap.size, 2, none⟩ (.int .i64 rnr)).setCell ⟨W0.heap.size, 3, none⟩ (.bool rp) = V4 ∧ Below W0.heap.size W0 V4 ∧ V4.cell? ⟨W0.heap.size, 0, none⟩ = some (.int .i64 rk) ∧ V4.cell? ⟨W0.heap.size, 1, none⟩ = some (.int .i64 rns) ∧ V4.cell? ⟨W0.heap.size, 2, none⟩ = some (.int .i64 rnr) ∧ V4.cell? ⟨W0.heap.size, 3, none⟩ = some (.bool rp) ∧ w1.cell? ⟨b, 0, none⟩ = some (.int .i64 (s.m : Int)) ∧ V4.cell? ⟨b, 0, none⟩ = some (.int .i64 (s.m : Int)) from fun w1 be3 => by
        obtain ⟨q1, q2, q3, V4, hV4, on4, m0, m1, m2, m3⟩ := ctl_box w1 W0.heap.size rk rns rnr rp (BX w1 be3)
        exact ⟨q1, q2, q3, V4, hV4, BA2 w1 V4 be3 on4, m0, m1, m2, m3, HK.out _ (be2.trans (be3.mono be2.size)), HK.out _ (BA2 w1 V4 be3 on4)⟩)
      clear BA2 BX
      -- what comes behind
      have h00 : W0.heap[w.heap.size]? = some (.cells #[.int .i64 0, .int .i64 0, .int .i64 0, .int .i64 0, .bool false, .slice none 0 0] 75 (0, 0)) := by rw [← hW0]; exact heap_alloc_new w _
      have hs0 : W0.heap.size = w.heap.size + 1 := by rw [← hW0]; simp
      have x0 := hcells 0 (by omega)
      have x1 := hcells 1 (by omega)
      rw [Nat.add_zero] at x0
      have HX := Lib.hid (show ∀ v, Below W0.heap.size W0 v → v.cell? ⟨g, off, none⟩ = some (.int .u8 ((x.getD 0 0).toNat : Int)) ∧ v.cell? ⟨g, off + 1, none⟩ = some (.int .u8 ((x.getD 1 0).toNat : Int)) ∧ v.heap[w.heap.size]? = some (.cells #[.int .i64 0, .int .i64 0, .int .i64 0, .int .i64 0, .bool false, .slice none 0 0] 75 (0, 0)) from fun v hv => ⟨((be0.trans (hv.mono be0.size)).cell hgl).trans x0, ((be0.trans (hv.mono be0.size)).cell hgl).trans x1, (hv.block w.heap.size (by omega)).trans h00⟩)
      have hre : ¬ re = 0 := by
        intro h0
        have hrr' := hrr
        rw [hd2] at hrr'
        unfold rdC at hrr'
        split at hrr'
        · injection hrr' with _ q; injection q with _ q; omega
        · rw [if_pos rfl] at hrr'; injection hrr' with _ q; injection q with _ q; omega
      · have gre : (re != 0) = true := by simpa using hre
        have FI := Lib.hid (show ∀ V6 V4, Below W0.heap.size W0 V4 → Only (fun i => i = w.heap.size) V4 V6 → AqRd s (some ⟨g, off, none⟩) x w (.returned (.tuple #[rvv 0 0 0 0 false none 0 0, .bool false])) V6 from fun V6 V4 hb on => ⟨(be0.trans (hb.mono be0.size)).trans (on.below (fun i hi => by rw [hi]; omega) (by have := hb.size; omega)), .inr ⟨.inr (by rw [hrr]; exact hre), rfl⟩⟩)
        have k0 := HK.out _ be1
        have k2 := HK.out _ be2
        clear hs0 hre h00 x0 x1 hcells hr h c0 RC hrr hd2 hx2
        go_enter Try.func39, Try.ntmps39
        go_wp2_with fail
        go_region_held (fun v => v.cell? ⟨b, 0, none⟩ = some (.int .i64 (s.m : Int))) (first | (with_reducible exact k0) | (with_reducible exact k2) | (with_reducible exact kA) | (with_reducible exact kB) | (with_reducible exact kC))
          (first | (go_at_call 57; (with_reducible refine RC1.mono ?_); rintro e1 w1 ⟨rfl, be3⟩; obtain ⟨⟨a0, a1, a2, a3⟩, ⟨y0, y1, y2, y3⟩, ⟨⟨u1, v1⟩, ⟨u2, v2⟩, ⟨u3, v3⟩⟩, V4, hV4, hB4, m0, m1, m2, m3, kA, kB, kC⟩ := AR1.out w1 be3) | (go_at_call 57; (with_reducible refine RC2.mono ?_); rintro e1 w1 ⟨rfl, be3⟩; obtain ⟨⟨a0, a1, a2, a3⟩, ⟨y0, y1, y2, y3⟩, ⟨⟨u1, v1⟩, ⟨u2, v2⟩, ⟨u3, v3⟩⟩, V4, hV4, hB4, m0, m1, m2, m3, kA, kC⟩ := AR2.out w1 be3))
        all_goals
          obtain ⟨xx0, xx1, hbx⟩ := HX.out V4 hB4
          obtain ⟨⟨p0, p1, p2, p3, p4, p5⟩, ⟨o0, o1, o2, o3, o4, o5⟩, ⟨⟨r1, s1⟩, ⟨r2, s2⟩, ⟨r3, s3⟩, ⟨r4, s4⟩, ⟨r5, s5⟩⟩, V6, hV6, on6, n0, n1, n2, n3, n4, n5⟩ := rcv_box V4 w.heap.size 0 0 0 0 false none 0 0 hbx
          have FJ := Lib.hid (FI.out V6 V4 hB4 on6)
          clear on6 FI HX hbx xx0 xx1
          go_wp2
          refine bodyPost_ret (v := .tuple #[.agg #[.int .i64 0, .int .i64 0, .int .i64 0, .int .i64 0, .bool false, .slice none 0 0], .bool false]) (by simp [results, Try.results39, go_sem, n0, n1, n2, n3, n4, n5]) rfl ?_
          exact FJ.out
    · have hR := hr.rest 2 (some ⟨g, off + 2, none⟩) (fun _ b' off' he' => by injection he' with he'; injection he' with e1 e2; subst e1 e2; rfl)
      obtain ⟨W0, hW0⟩ : ∃ W0, w.alloc (.cells #[.int .i64 0, .int .i64 0, .int .i64 0, .int .i64 0, .bool false, .slice none 0 0] 75) = W0 := ⟨_, rfl⟩
      have be0 : Below w.heap.size w W0 := by rw [← hW0]; exact (Below.refl _ _).alloc (Nat.le_refl _) _
      have RC := fun v (be : Below w.heap.size w v) => read_calls (some ⟨g, off + 2, none⟩) (e - 2) (x.drop 2) s.m v (hR.below be) (by rw [List.length_drop]; omega)
      simp only [List.length_drop] at RC
      unfold GivesC cv at RC
      generalize hrr : rdC (x.drop 2) s.m = r at *
      obtain ⟨⟨rk, rns, rnr, rp⟩, rl, re⟩ := r
      dsimp only at RC
      have be1 : Below W0.heap.size W0 W0.drew := (Below.refl _ _).drew
      have be2 : Below W0.heap.size W0 (W0.alloc (.cells #[.int .i64 0, .int .i64 0, .int .i64 0, .bool false] 54)).drew := ((Below.refl _ _).alloc (Nat.le_refl _) _).drew
      have RC1 := RC _ (be0.trans (be1.mono be0.size))
      have RC2 := RC _ (be0.trans (be2.mono be0.size))
      have g1 : ¬ (x.length : Int) < 2 := by omega
      have g2 : (2 : Int) ≤ (x.length : Int) := by omega
      have g3 : (x.length : Int) ≤ (e : Int) := by omega
      have g4 : ¬ e = 2 := he2
      have HK := Lib.hid (show ∀ v, Below W0.heap.size W0 v → v.cell? ⟨b, 0, none⟩ = some (.int .i64 (s.m : Int)) from fun v hv => ((be0.trans (hv.mono be0.size)).cell hbl).trans c0)
      have BA2 : ∀ w1 V4, Below (W0.alloc (.cells #[.int .i64 0, .int .i64 0, .int .i64 0, .bool false] 54)).drew.heap.size (W0.alloc (.cells #[.int .i64 0, .int .i64 0, .int .i64 0, .bool false] 54)).drew w1 → Only (fun i => i = W0.heap.size) w1 V4 → Below W0.heap.size W0 V4 := fun w1 V4 b3 on => by
        have b4 := be2.trans (b3.mono be2.size)
        exact b4.trans (on.below (fun i hi => by rw [hi]; omega) b4.size)
      have BX : ∀ w1, Below (W0.alloc (.cells #[.int .i64 0, .int .i64 0, .int .i64 0, .bool false] 54)).drew.heap.size (W0.alloc (.cells #[.int .i64 0, .int .i64 0, .int .i64 0, .bool false] 54)).drew w1 → w1.heap[W0.heap.size]? = some (.cells #[.int .i64 0, .int .i64 0, .int .i64 0, .bool false] 54 (0, 0)) := fun w1 b3 => by
        rw [b3.block W0.heap.size (by show _ < (W0.alloc _).heap.size; simp)]
        exact heap_alloc_new W0 _
      have AR1 := Lib.hid (show ∀ w1, Below W0.drew.heap.size W0.drew w1 → ((w1.alloc (.cells #[.int .i64 0, .int .i64 0, .int .i64 0, .bool false] 54)).cell? ⟨w1.heap.size, 0, none⟩ = some (.int .i64 0) ∧ (w1.alloc (.cells #[.int .i64 0, .int .i64 0, .int .i64 0, .bool false] 54)).cell? ⟨w1.heap.size, 1, none⟩ = some (.int .i64 0) ∧ (w1.alloc (.cells #[.int .i64 0, .int .i64 0, .int .i64 0, .bool false] 54)).cell? ⟨w1.heap.size, 2, none⟩ = some (.int .i64 0) ∧ (w1.alloc (.cells #[.int .i64 0, .int .i64 0, .int .i64 0, .bool false] 54)).cell? ⟨w1.heap.size, 3, none⟩ = some (.bool false)) ∧ ((w1.alloc (.cells #[.int .i64 0, .int .i64 0, .int .i64 0, .bool false] 54)).frozen? ⟨w1.heap.size, 0, none⟩ = false ∧ (w1.alloc (.cells #[.int .i64 0, .int .i64 0, .int .i64 0, .bool false] 54)).frozen? ⟨w1.heap.size, 1, none⟩ = false ∧ (w1.alloc (.cells #[.int .i64 0, .int .i64 0, .int .i64 0, .bool false] 54)).frozen? ⟨w1.heap.size, 2, none⟩ = false ∧ (w1.alloc (.cells #[.int .i64 0, .int .i64 0, .int .i64 0, .bool false] 54)).frozen? ⟨w1.heap.size, 3, none⟩ = false) ∧ ((((w1.alloc (.cells #[.int .i64 0, .int .i64 0, .int .i64 0, .bool false] 54)).setCell ⟨w1.heap.size, 0, none⟩ (.int .i64 rk)).cell? ⟨w1.heap.size, 1, none⟩ = some (.int .i64 0) ∧ ((w1.alloc (.cells #[.int .i64 0, .int .i64 0, .int .i64 0, .bool false] 54)).setCell ⟨w1.heap.size, 0, none⟩ (.int .i64 rk)).frozen? ⟨w1.heap.size, 1, none⟩ = false) ∧ ((((w1.alloc (.cells #[.int .i64 0, .int .i64 0, .int .i64 0, .bool false] 54)).setCell ⟨w1.heap.size, 0, none⟩ (.int .i64 rk)).setCell ⟨w1.heap.size, 1, none⟩ (.int .i64 rns)).cell? ⟨w1.heap.size, 2, none⟩ = some (.int .i64 0) ∧ (((w1.alloc (.cells #[.int .i64 0, .int .i64 0, .int .i64 0, .bool false] 54)).setCell ⟨w1.heap.size, 0, none⟩ (.int .i64 rk)).setCell ⟨w1.heap.size, 1, none⟩ (.int .i64 rns)).frozen? ⟨w1.heap.size, 2, none⟩ = false) ∧ (((((w1.alloc (.cells #[.int .i64 0, .int .i64 0, .int .i64 0, .bool false] 54)).setCell ⟨w1.heap.size, 0, none⟩ (.int .i64 rk)).setCell ⟨w1.heap.size, 1, none⟩ (.int .i64 rns)).setCell ⟨w1.heap.size, 2, none⟩ (.int .i64 rnr)).cell? ⟨w1.heap.size, 3, none⟩ = some (.bool false) ∧ ((((w1.alloc (.cells #[.int .i64 0, .int .i64 0, .int .i64 0, .bool false] 54)).setCell ⟨w1.heap.size, 0, none⟩ (.int .i64 rk)).setCell ⟨w1.heap.size, 1, none⟩ (.int .i64 rns)).setCell ⟨w1.heap.size, 2, none⟩ (.int .i64 rnr)).frozen? ⟨w1.heap.size, 3, none⟩ = false)) ∧ ∃ V4, w1.alloc (.cells #[.int .i64 rk, .int .i64 rns, .int .i64 rnr, .bool rp] 54) = V4 ∧ Below W0.heap.size W0 V4 ∧ V4.cell? ⟨w1.heap.size, 0, none⟩ = some (.int .i64 rk) ∧ V4.cell? ⟨w1.heap.size, 1, none⟩ = some (.int .i64 rns) ∧ V4.cell? ⟨w1.heap.size, 2, none⟩ = some (.int .i64 rnr) ∧ V4.cell? ⟨w1.heap.size, 3, none⟩ = some (.bool rp) ∧ w1.cell? ⟨b, 0, none⟩ = some (.int .i64 (s.m : Int)) ∧ (w1.alloc (.cells #[.int .i64 0, .int .i64 0, .int .i64 0, .bool false] 54)).cell? ⟨b, 0, none⟩ = some (.int .i64 (s.m : Int)) ∧ V4.cell? ⟨b, 0, none⟩ = some (.int .i64 (s.m : Int)) from fun w1 be3 => by
        have hB1 := be1.trans (be3.mono be1.size)
        obtain ⟨q1, q2, q3, _⟩ := ctl_box (w1.alloc (.cells #[.int .i64 0, .int .i64 0, .int .i64 0, .bool false] 54)) w1.heap.size rk rns rnr rp (heap_alloc_new w1 _)
        exact ⟨q1, q2, q3, _, rfl, hB1.alloc hB1.size _, new_cell w1 _ 0 rfl, new_cell w1 _ 1 rfl, new_cell w1 _ 2 rfl, new_cell w1 _ 3 rfl, HK.out _ hB1, HK.out _ (hB1.alloc hB1.size _), HK.out _ (hB1.alloc hB1.size _)⟩)
      have AR2 := Lib.hid (show ∀ w1, Below (W0.alloc (.cells #[.int .i64 0, .int .i64 0, .int .i64 0, .bool false] 54)).drew.heap.size (W0.alloc (.cells #[.int .i64 0, .int .i64 0, .int .i64 0, .bool false] 54)).drew w1 → (w1.cell? ⟨W0.heap.size, 0, none⟩ = some (.int .i64 0) ∧ w1.cell? ⟨W0.heap.size, 1, none⟩ = some (.int .i64 0) ∧ w1.cell? ⟨W0.heap.size, 2, none⟩ = some (.int .i64 0) ∧ w1.cell? ⟨W0.heap.size, 3, none⟩ = some (.bool false)) ∧
          (w1.frozen? ⟨W0.heap.size, 0, none⟩ = false ∧ w1.frozen? ⟨W0.heap.size, 1, none⟩ = false ∧ w1.frozen? ⟨W0.heap.size, 2, none⟩ = false ∧ w1.frozen? ⟨W0.heap.size, 3, none⟩ = false) ∧
          (((w1.setCell ⟨W0.heap.size, 0, none⟩ (.int .i64 rk)).cell? ⟨W0.heap.size, 1, none⟩ = some (.int .i64 0) ∧ (w1.setCell ⟨W0.heap.size, 0, none⟩ (.int .i64 rk)).frozen? ⟨W0.heap.size, 1, none⟩ = false) ∧
          (((w1.setCell ⟨W0.heap.size, 0, none⟩ (.int .i64 rk)).setCell ⟨W0.heap.size, 1, none⟩ (.int .i64 rns)).cell? ⟨W0.heap.size, 2, none⟩ = some (.int .i64 0) ∧ ((w1.setCell ⟨W0.heap.size, 0, none⟩ (.int .i64 rk)).setCell ⟨W0.heap.size, 1, none⟩ (.int .i64 rns)).frozen? ⟨W0.heap.size, 2, none⟩ = false) ∧
          ((((w1.setCell ⟨W0.heap.size, 0, none⟩ (.int .i64 rk)).setCell ⟨W0.heap.size, 1, none⟩ (.int .i64 rns)).setCell ⟨W0.heap.size, 2, none⟩ (.int .i64 rnr)).cell? ⟨W0.heap.size, 3, none⟩ = some (.bool false) ∧ (((w1.setCell ⟨W0.heap.size, 0, none⟩ (.int .i64 rk)).setCell ⟨W0.heap.size, 1, none⟩ (.int .i64 rns)).setCell ⟨W0.heap.size, 2, none⟩ (.int .i64 rnr)).frozen? ⟨W0.heap.size, 3, none⟩ = false)) ∧
          ∃ V4, (((w1.setCell ⟨W0.heap.size, 0, none⟩ (.int .i64 rk)).setCell ⟨W0.heap.size, 1, none⟩ (.int .i64 rns)).setCell ⟨W0.heap.size, 2, none⟩ (.int .i64 rnr)).setCell ⟨W0.heap.size, 3, none⟩ (.bool rp) = V4 ∧ Below W0.heap.size W0 V4 ∧ V4.cell? ⟨W0.heap.size, 0, none⟩ = some (.int .i64 rk) ∧ V4.cell? ⟨W0.heap.size, 1, none⟩ = some (.int .i64 rns) ∧ V4.cell? ⟨W0.heap.size, 2, none⟩ = some (.int .i64 rnr) ∧ V4.cell? ⟨W0.heap.size, 3, none⟩ = some (.bool rp) ∧ w1.cell? ⟨b, 0, none⟩ = some (.int .i64 (s.m : Int)) ∧ V4.cell? ⟨b, 0, none⟩ = some (.int .i64 (s.m : Int)) from fun w1 be3 => by
        obtain ⟨q1, q2, q3, V4, hV4, on4, m0, m1, m2, m3⟩ := ctl_box w1 W0.heap.size rk rns rnr rp (BX w1 be3)
        exact ⟨q1, q2, q3, V4, hV4, BA2 w1 V4 be3 on4, m0, m1, m2, m3, HK.out _ (be2.trans (be3.mono be2.size)), HK.out _ (BA2 w1 V4 be3 on4)⟩)
      clear BA2 BX
      -- what comes behind
      have h00 : W0.heap[w.heap.size]? = some (.cells #[.int .i64 0, .int .i64 0, .int .i64 0, .int .i64 0, .bool false, .slice none 0 0] 75 (0, 0)) := by rw [← hW0]; exact heap_alloc_new w _
      have hs0 : W0.heap.size = w.heap.size + 1 := by rw [← hW0]; simp
      have x0 := hcells 0 (by omega)
      have x1 := hcells 1 (by omega)
      rw [Nat.add_zero] at x0
      have HX := Lib.hid (show ∀ v, Below W0.heap.size W0 v → v.cell? ⟨g, off, none⟩ = some (.int .u8 ((x.getD 0 0).toNat : Int)) ∧ v.cell? ⟨g, off + 1, none⟩ = some (.int .u8 ((x.getD 1 0).toNat : Int)) ∧ v.heap[w.heap.size]? = some (.cells #[.int .i64 0, .int .i64 0, .int .i64 0, .int .i64 0, .bool false, .slice none 0 0] 75 (0, 0)) from fun v hv => ⟨((be0.trans (hv.mono be0.size)).cell hgl).trans x0, ((be0.trans (hv.mono be0.size)).cell hgl).trans x1, (hv.block w.heap.size (by omega)).trans h00⟩)
      by_cases hre : re = 0
      · obtain ⟨N, hrl, hN1, hN4, hNl, hk0, hk7, hn0, hn1, hm0, hm1⟩ := rdC_good hrr hre
        dsimp only at hre hrl hk0 hk7 hn0 hn1 hm0 hm1
        rw [List.length_drop] at hNl
        have hb0 := (x.getD 0 0).toNat_lt
        have hb1 := (x.getD 1 0).toNat_lt
        have htg : bits .or .i64 (((x.getD 0 0).toNat : Int) * 256) ((x.getD 1 0).toNat : Int) = ((Aq.tagOf x : Nat) : Int) := tag_or hb0 hb1
        have hLl : (x.drop (2 + N)).length = x.length - (2 + N) := List.length_drop
        have FI := Lib.hid (show ∀ V6 V4, Below W0.heap.size W0 V4 → Only (fun i => i = w.heap.size) V4 V6 → ∀ Y d, Rd w Y (x.drop (2 + N)) → (∀ k, blk Y = some k → blk (some (⟨g, off, none⟩ : Addr)) = some k) → AqRd s (some ⟨g, off, none⟩) x w (.returned (.tuple #[rvv (Aq.tagOf x) rk rns rnr rp Y (x.length - (2 + N)) d, .bool true])) V6 from fun V6 V4 hb on Y d hY hg => ⟨(be0.trans (hb.mono be0.size)).trans (on.below (fun i hi => by rw [hi]; omega) (by have := hb.size; omega)), .inl ⟨h1, by rw [hrr]; exact hre, Y, d, by rw [hrr]; dsimp only; rw [hrl, Int.toNat_natCast, hLl], by rw [hrr]; dsimp only; rw [hrl, Int.toNat_natCast]; exact hY, hg⟩⟩)
        have RY1 := Lib.hid (show e = 2 + N → Rd w (some ⟨g, off, none⟩) (x.drop (2 + N)) from fun he => by rw [List.drop_eq_nil_of_le (by omega)]; exact Rd.nil _ _)
        have RY2 := Lib.hid (hr.rest (2 + N) (some ⟨g, off + (2 + N), none⟩) (fun _ b' off' he' => by injection he' with he'; injection he' with e1 e2; subst e1 e2; rfl))
        have k0 := HK.out _ be1
        have k2 := HK.out _ be2
        have hNx : 2 + N ≤ x.length := by omega
        subst hrl hre
        have gl : (2 : Int) + (N : Int) ≤ (x.length : Int) := by omega
        have gl2 : (x.length : Int) ≤ (e : Int) := by omega
        have gl3 : (0 : Int) ≤ 2 + (N : Int) := by omega
        have gtn : ((2 : Int) + (N : Int)).toNat = 2 + N := by omega
        have gwr : IntKind.i64.wrap ((2 : Int) + (N : Int)) = 2 + (N : Int) := by rw [IntKind.wrap_i64]; omega
        clear hs0 h00 x0 x1 hcells hr hR h c0 RC hrr hk0 hk7 hn0 hn1 hm0 hm1 hNl hLl
        generalize Aq.tagOf x = tg at *
        generalize (x.getD 0 0).toNat = y0' at *
        generalize (x.getD 1 0).toNat = y1' at *
        go_enter Try.func39, Try.ntmps39
        go_wp2_with fail
        go_region_held (fun v => v.cell? ⟨b, 0, none⟩ = some (.int .i64 (s.m : Int))) (first | (with_reducible exact k0) | (with_reducible exact k2) | (with_reducible exact kA) | (with_reducible exact kB) | (with_reducible exact kC))
          (first | (go_at_call 57; (with_reducible refine RC1.mono ?_); rintro e1 w1 ⟨rfl, be3⟩; obtain ⟨⟨a0, a1, a2, a3⟩, ⟨y0, y1, y2, y3⟩, ⟨⟨u1, v1⟩, ⟨u2, v2⟩, ⟨u3, v3⟩⟩, V4, hV4, hB4, m0, m1, m2, m3, kA, kB, kC⟩ := AR1.out w1 be3) | (go_at_call 57; (with_reducible refine RC2.mono ?_); rintro e1 w1 ⟨rfl, be3⟩; obtain ⟨⟨a0, a1, a2, a3⟩, ⟨y0, y1, y2, y3⟩, ⟨⟨u1, v1⟩, ⟨u2, v2⟩, ⟨u3, v3⟩⟩, V4, hV4, hB4, m0, m1, m2, m3, kA, kC⟩ := AR2.out w1 be3))
        all_goals
          obtain ⟨xx0, xx1, hbx⟩ := HX.out V4 hB4
          go_wp2_with fail
          go_quiet (fail)
          obtain ⟨V5, hV5⟩ : ∃ V5, V4.drewN nq = V5 := ⟨_, rfl⟩
          have hB5 : Below W0.heap.size W0 V5.drew := by rw [← hV5]; exact (show Below W0.heap.size W0 (V4.drewN nq) from ⟨hB4.os, hB4.tape, hB4.output, hB4.size, hB4.block⟩).drew
          rw [hV5]
          have e0 : ∀ a, V5.drew.cell? a = V4.cell? a := fun a => by rw [← hV5]; rfl
          have l0 := (e0 _).trans m0
          have l1 := (e0 _).trans m1
          have l2 := (e0 _).trans m2
          have l3 := (e0 _).trans m3
          obtain ⟨-, -, hbx5⟩ := HX.out V5.drew hB5
          obtain ⟨VD, hVD⟩ : ∃ VD, V5.drew = VD := ⟨_, rfl⟩
          rw [hVD] at hbx5 hB5
          have HVD := Lib.hid hVD
          clear xx0 xx1 hbx e0 m0 m1 m2 m3 hV5 hV4 kA kC hB4 hVD
          by_cases hcap : e = 2 + N
          · have FY := Lib.hid (fun V6 (on : Only (fun i => i = w.heap.size) VD V6) => FI.out V6 VD hB5 on (some ⟨g, off, none⟩) 0 (RY1.out hcap) (fun _ h => h))
            obtain ⟨⟨p0, p1, p2, p3, p4, p5⟩, ⟨o0, o1, o2, o3, o4, o5⟩, ⟨⟨r1, s1⟩, ⟨r2, s2⟩, ⟨r3, s3⟩, ⟨r4, s4⟩, ⟨r5, s5⟩⟩, V6, hV6, on6, n0, n1, n2, n3, n4, n5⟩ := rcv_box VD w.heap.size tg rk rns rnr rp (some ⟨g, off, none⟩) (x.length - (2 + N)) 0 hbx5
            have FJ := Lib.hid (FY.out V6 on6)
            clear on6 FY
            go_wp2_with fail
            refine wp_region_still_tail 7 (by kernel_rfl) (by kernel_rfl) ?_
            simp only [List.take_succ_cons, List.take_zero, List.drop_succ_cons, List.drop_zero]
            repeat still_step
            refine wpStill_nil ?_
            change wpList _ _ _ _ _ V5.drew
            rw [HVD.out]
            go_wp2
            refine bodyPost_ret (v := .tuple #[.agg #[.int .i64 (tg : Int), .int .i64 rk, .int .i64 rns, .int .i64 rnr, .bool rp, .slice (some ⟨g, off, none⟩) (x.length - (2 + N)) 0], .bool true]) (by simp [results, Try.results39, go_sem, n0, n1, n2, n3, n4, n5]) rfl ?_
            exact FJ.out
          · have FY := Lib.hid (fun V6 (on : Only (fun i => i = w.heap.size) VD V6) => FI.out V6 VD hB5 on (some ⟨g, off + (2 + N), none⟩) (e - (2 + N)) RY2.out (fun _ h => h))
            obtain ⟨⟨p0, p1, p2, p3, p4, p5⟩, ⟨o0, o1, o2, o3, o4, o5⟩, ⟨⟨r1, s1⟩, ⟨r2, s2⟩, ⟨r3, s3⟩, ⟨r4, s4⟩, ⟨r5, s5⟩⟩, V6, hV6, on6, n0, n1, n2, n3, n4, n5⟩ := rcv_box VD w.heap.size tg rk rns rnr rp (some ⟨g, off + (2 + N), none⟩) (x.length - (2 + N)) (e - (2 + N)) hbx5
            have FJ := Lib.hid (FY.out V6 on6)
            clear on6 FY
            go_wp2_with fail
            refine wp_region_still_tail 7 (by kernel_rfl) (by kernel_rfl) ?_
            simp only [List.take_succ_cons, List.take_zero, List.drop_succ_cons, List.drop_zero]
            repeat still_step
            refine wpStill_nil ?_
            change wpList _ _ _ _ _ V5.drew
            rw [HVD.out]
            go_wp2
            refine bodyPost_ret (v := .tuple #[.agg #[.int .i64 (tg : Int), .int .i64 rk, .int .i64 rns, .int .i64 rnr, .bool rp, .slice (some ⟨g, off + (2 + N), none⟩) (x.length - (2 + N)) (e - (2 + N))], .bool true]) (by simp [results, Try.results39, go_sem, n0, n1, n2, n3, n4, n5]) rfl ?_
            exact FJ.out
      · have gre : (re != 0) = true := by simpa using hre
        have FI := Lib.hid (show ∀ V6 V4, Below W0.heap.size W0 V4 → Only (fun i => i = w.heap.size) V4 V6 → AqRd s (some ⟨g, off, none⟩) x w (.returned (.tuple #[rvv 0 0 0 0 false none 0 0, .bool false])) V6 from fun V6 V4 hb on => ⟨(be0.trans (hb.mono be0.size)).trans (on.below (fun i hi => by rw [hi]; omega) (by have := hb.size; omega)), .inr ⟨.inr (by rw [hrr]; exact hre), rfl⟩⟩)
        have k0 := HK.out _ be1
        have k2 := HK.out _ be2
        clear hs0 hre h00 x0 x1 hcells hr hR h c0 RC hrr
        go_enter Try.func39, Try.ntmps39
        go_wp2_with fail
        go_region_held (fun v => v.cell? ⟨b, 0, none⟩ = some (.int .i64 (s.m : Int))) (first | (with_reducible exact k0) | (with_reducible exact k2) | (with_reducible exact kA) | (with_reducible exact kB) | (with_reducible exact kC))
          (first | (go_at_call 57; (with_reducible refine RC1.mono ?_); rintro e1 w1 ⟨rfl, be3⟩; obtain ⟨⟨a0, a1, a2, a3⟩, ⟨y0, y1, y2, y3⟩, ⟨⟨u1, v1⟩, ⟨u2, v2⟩, ⟨u3, v3⟩⟩, V4, hV4, hB4, m0, m1, m2, m3, kA, kB, kC⟩ := AR1.out w1 be3) | (go_at_call 57; (with_reducible refine RC2.mono ?_); rintro e1 w1 ⟨rfl, be3⟩; obtain ⟨⟨a0, a1, a2, a3⟩, ⟨y0, y1, y2, y3⟩, ⟨⟨u1, v1⟩, ⟨u2, v2⟩, ⟨u3, v3⟩⟩, V4, hV4, hB4, m0, m1, m2, m3, kA, kC⟩ := AR2.out w1 be3))
        all_goals
          obtain ⟨xx0, xx1, hbx⟩ := HX.out V4 hB4
          obtain ⟨⟨p0, p1, p2, p3, p4, p5⟩, ⟨o0, o1, o2, o3, o4, o5⟩, ⟨⟨r1, s1⟩, ⟨r2, s2⟩, ⟨r3, s3⟩, ⟨r4, s4⟩, ⟨r5, s5⟩⟩, V6, hV6, on6, n0, n1, n2, n3, n4, n5⟩ := rcv_box V4 w.heap.size 0 0 0 0 false none 0 0 hbx
          have FJ := Lib.hid (FI.out V6 V4 hB4 on6)
          clear on6 FI HX hbx xx0 xx1
          go_wp2
          refine bodyPost_ret (v := .tuple #[.agg #[.int .i64 0, .int .i64 0, .int .i64 0, .int .i64 0, .bool false, .slice none 0 0], .bool false]) (by simp [results, Try.results39, go_sem, n0, n1, n2, n3, n4, n5]) rfl ?_
          exact FJ.out
end
end Go.Proofs.Ytgkdabllaankcaa

/- Out and Body of a log of the reference; SameInts of two rows of numbers. Condition of Body: the number is one of 64 bits. -/
import Derived.Test.YteofffnfafhgfaaRlAck
import Derived.Test.YteofffnfafhgfaaLogOut
namespace Go.Proofs.Yteofffnfafhgfaa
open Go.RowKit
set_option linter.unusedVariables false

/-- what Body returns -/
def RlBody (s : Lg) (k : Int) (w : World) (e : Ending) (w' : World) : Prop :=
  ∃ A c, e = .returned (.tuple #[.slice A (s.body k).length c, .bool (s.has k)]) ∧ Rd w' A (s.body k) ∧ Below w.heap.size w w'
section
variable {w : World} {F : Nat → Prop} {b : Nat} {s : Lg}
set_option maxRecDepth 20000 in
set_option maxHeartbeats 1000000 in
theorem rlBody_calls (h : RlP w F b s) (k : Int) (hk : I64 k) : Calls Try.prog 18 #[.pointer (some ⟨b, 0, none⟩), .int .i64 k] w (RlBody s k w) := by
  have ok := h.2
  have hol := Lg.outM_len s
  obtain ⟨k1, k2⟩ := hk
  have hnb : s.n ≤ 10000 := by have := ok.nl; have := ok.len; omega
  obtain ⟨A, c, q4, q3, hc1, hc2, hAC⟩ := rl_out h.1
  have GET := Lib.hid (show ∀ i, i < s.n → s.outM.getD i (0, []) = ((s.num i : Int), s.l.getD i []) from fun i hi => Lg.outM_get s hi)
  have SM := Lib.hid (fun i => Lg.get_small ok i)
  have HAS := Lib.hid (fun i (hi : i < s.n) => Lg.has_at ok hi)
  have NON := Lib.hid (fun (hk : ∀ j, j < s.n → k ≠ (s.num j : Int)) => Lg.has_none ok hk)
  have hcm : c ≤ 9223372036854775807 := by unfold maxLen at hc2; omega
  rw [hol] at q4 hc1 hAC
  clear h ok hc2 hol q3
  generalize hnn : s.n = n at *
  clear hnn
  go_enter Try.func18, Try.ntmps18
  go_wp2_with fail
  go_loopg [6] n (fun kx s6 wr => ∃ i : Nat, s6 = .int .i64 (i : Int) ∧ i ≤ n ∧ n - i ≤ kx ∧ w = wr ∧ Aside (∀ j, j < i → k ≠ (s.num j : Int)))
  case atStart => exact ⟨0, rfl, by omega, by omega, rfl, fun j hj => by omega⟩
  case round =>
    obtain ⟨i, rfl, hi, hkx, rfl, HN⟩ := hrel
    by_cases hlt : i < n
    · have g2 : (i : Int) < (n : Int) := by omega
      rcases hAC with ⟨_, hA0, _⟩ | ⟨g, off, rfl, hgs, hcl⟩
      · omega
      obtain ⟨qi, B, d, qb, rd⟩ := hcl i hlt
      rw [GET.out i hlt] at qi qb rd
      simp only at qi qb rd
      have g4 : (0 : Int) ≤ (i : Int) := by omega
      clear hcl
      by_cases hkq : k = (s.num i : Int)
      · have g3 : ((s.num i : Int) == k) = true := beq_iff_eq.2 hkq.symm
        obtain ⟨e1, e2⟩ := HAS.out i hlt
        obtain ⟨A8, c8, V8, r8, m8, b8, k8⟩ := app_nil (V := w) (C := B) (d := d) rd rfl (SM.out i)
        have FI := Lib.hid (show RlBody s k w (.returned (.tuple #[.slice A8 (s.l.getD i []).length c8, .bool true])) V8 from by
          unfold RlBody
          rw [hkq, e1, e2]
          exact ⟨A8, c8, rfl, m8.rd, b8⟩)
        clear rd m8 b8 k8 HN HAS NON GET SM hkq e1 e2
        generalize (s.l.getD i []).length = p at *
        go_wp2_with (at_builtin; refine Lib.wpList_append_run _ rfl _ _ _ _ rfl _ _ rfl rfl _ _ (r8 _) ?_)
        go_ret2
        exact FI.out
      · have g3 : ((s.num i : Int) == k) = false := beq_eq_false_iff_ne.2 (fun e => hkq e.symm)
        have HN2 : Aside (∀ j, j < i + 1 → k ≠ (s.num j : Int)) := fun j hj => by
          rcases Nat.lt_or_ge j i with h | h
          · exact HN.out j h
          · rw [show j = i by omega]; exact hkq
        clear HN HAS GET NON hkq SM rd
        go_wp2
        go_roundg (n - (i + 1))
        case measure => omega
        case rel => exact ⟨i + 1, by go_num, by omega, Nat.le_refl _, rfl, HN2⟩
    · have g1 : ¬ (i : Int) < (n : Int) := by omega
      have FI := Lib.hid (show RlBody s k w (.returned (.tuple #[.slice none 0 0, .bool false])) w from by
        obtain ⟨e1, e2⟩ := NON.out (fun j hj => HN.out j (by omega))
        unfold RlBody
        rw [e1, e2]
        exact ⟨none, 0, rfl, Rd.nil _ _, Below.refl _ _⟩)
      clear HN HAS GET NON hAC SM
      go_wp2
      go_ret2
      exact FI.out
set_option maxRecDepth 20000 in
set_option maxHeartbeats 400000 in
theorem rlOut_calls (h : RlP w F b s) : Calls Try.prog 23 #[.pointer (some ⟨b, 0, none⟩)] w (LgOut s.out w) := by
  have ok := h.2
  have hol := Lg.outM_len s
  have hnb : s.n ≤ 10000 := by have := ok.nl; have := ok.len; omega
  obtain ⟨A, c, q4, q3, hc1, hc2, hAC⟩ := rl_out h.1
  have GET := Lib.hid (show ∀ i, i < s.n → s.outM.getD i (0, []) = ((s.num i : Int), s.l.getD i []) from fun i hi => Lg.outM_get s hi)
  have hcm : c ≤ 9223372036854775807 := by unfold maxLen at hc2; omega
  have hbl : b < w.heap.size := h.lt b h.1.mem
  have EO := Lib.hid (show s.out = (List.range s.n).map s.num from rfl)
  rw [hol] at q4 hc1 hAC
  have C4 := Lib.hid q4
  clear h ok hc2 hol q3 q4
  generalize s.out = O at *
  generalize hnn : s.n = n at *
  clear hnn
  go_enter Try.func23, Try.ntmps23
  go_wp2_with fail
  go_loopg [3, 4] n (fun kx s3 s4 wr => ∃ (i : Nat) (A : Option Addr) (c : Nat), s3 = .slice A i c ∧ s4 = .int .i64 (i : Int) ∧ i ≤ n ∧ n - i ≤ kx ∧ Aside (NOwn 3 .i64 wr w.heap.size A c ((List.range i).map s.num)) ∧ Aside (Below w.heap.size w wr))
  case atStart => exact ⟨0, none, 0, rfl, rfl, by omega, by omega, NOwn.nil _ _ _ _, Below.refl _ _⟩
  case round =>
    obtain ⟨i, A3, c3, rfl, rfl, hi, hkx, HN, HB⟩ := hrel
    have hll : ((List.range i).map s.num).length = i := by simp
    have k4 := (HB.out.cell (p := ⟨b, 4, none⟩) hbl).trans C4.out
    by_cases hlt : i < n
    · have g2 : (i : Int) < (n : Int) := by omega
      have g4 : (0 : Int) ≤ (i : Int) := by omega
      rcases hAC with ⟨_, hA0, _⟩ | ⟨g, off, rfl, hgs, hcl⟩
      · omega
      obtain ⟨qi, _⟩ := hcl i hlt
      rw [GET.out i hlt] at qi
      simp only at qi
      have ki := (HB.out.cell (p := ⟨g, off + i * 2, none⟩) hgs).trans qi
      obtain ⟨A', c', w', r, own, on, kin⟩ := HN.out.app ntInt HB.out.size (by rw [hll]; omega) (s.num i)
      rw [hll] at r
      have B2 : Aside (Below w.heap.size w w') := HB.out.trans (on.below (fun k hk => (HN.out.blk_ge k hk).1) HB.out.size)
      have FI := Lib.hid (show NOwn 3 .i64 w' w.heap.size A' c' ((List.range (i + 1)).map s.num) from by rw [range_next]; exact own)
      clear hcl qi HN HB own on kin hll
      generalize s.num i = x at *
      go_wp2_with (at_builtin; refine Lib.wpList_append_run _ rfl _ _ _ _ rfl _ _ rfl rfl _ _ (r _) ?_)
      go_roundg (n - (i + 1))
      case measure => omega
      case rel => exact ⟨i + 1, A', c', by go_num, by go_num, by omega, Nat.le_refl _, FI.out, B2⟩
    · have g1 : ¬ (i : Int) < (n : Int) := by omega
      have hin : i = n := by omega
      subst hin
      have FI := Lib.hid (show LgOut O w (.returned (.slice A3 i c3)) wr from by
        unfold LgOut
        rw [EO.out]
        exact ⟨A3, c3, by rw [hll], HN.out, HB.out⟩)
      clear HN HB hll hAC EO GET
      go_wp2
      go_ret
      exact FI.out
end
theorem sameNat_calls {v : World} {p q : Nat} {A B : Option Addr} {c c' : Nat} {L : List Nat} (r1 : NOwn 3 .i64 v p A c L) (r2 : NOwn 3 .i64 v q B c' L) (hl : L.length ≤ 1000000) :
    Calls Try.prog 21 #[.slice A L.length c, .slice B L.length c'] v fun e v' => e = .returned (.bool true) ∧ ∃ m, v' = v.drewN m := by
  have H : L = [] ∨ ∃ g1 g2, A = some ⟨g1, 0, none⟩ ∧ B = some ⟨g2, 0, none⟩ ∧ L.length ≤ c ∧ L.length ≤ c' ∧ ∀ j, j < L.length → v.cell? ⟨g1, 0 + j, none⟩ = some (.int .i64 ((L.getD j 0 : Nat) : Int)) ∧ v.cell? ⟨g2, 0 + j, none⟩ = some (.int .i64 ((L.getD j 0 : Nat) : Int)) := by
    by_cases hL : L = []
    · exact .inl hL
    · obtain ⟨g1, hA, _, _, hc1, h1, _⟩ := r1.parts hL
      obtain ⟨g2, hB, _, _, hc2, h2, _⟩ := r2.parts hL
      exact .inr ⟨g1, g2, hA, hB, hc1, hc2, fun j hj => ⟨h1 j hj, h2 j hj⟩⟩
  have HH := Lib.hid H
  obtain ⟨n, hn⟩ : ∃ n, n = L.length := ⟨_, rfl⟩
  have HL := Lib.hid hn
  have hle : n ≤ 1000000 := by omega
  rw [← hn]
  clear r1 r2 hl hn H
  go_enter Try.func21, Try.ntmps21
  go_wp2_with fail
  go_loopg [5] n (fun kx s5 wr => ∃ (i m : Nat), s5 = .int .i64 i ∧ i ≤ n ∧ n - i ≤ kx ∧ Aside (wr = v.drewN m))
  case atStart => exact ⟨0, 0, rfl, by omega, by omega, rfl⟩
  case round =>
    obtain ⟨i, m, rfl, hin, hkx, HW⟩ := hrel
    by_cases hlt : i < n
    · have hltz : (i : Int) < (n : Int) := by omega
      rcases HH.out with hL | ⟨g1, g2, rfl, rfl, hc1, hc2, hcl⟩
      · have := HL.out
        rw [hL] at this
        simp at this
        omega
      obtain ⟨h1, h2⟩ := hcl i (by rw [← HL.out]; exact hlt)
      have k1 : wr.cell? ⟨g1, 0 + i, none⟩ = some (.int .i64 ((L.getD i 0 : Nat) : Int)) := by rw [HW.out]; exact h1
      have k2 : wr.cell? ⟨g2, 0 + i, none⟩ = some (.int .i64 ((L.getD i 0 : Nat) : Int)) := by rw [HW.out]; exact h2
      rw [Nat.zero_add] at k1 k2
      generalize L.getD i 0 = x at k1 k2
      clear h1 h2 hcl hc1 hc2
      go_wp2_with fail
      go_quiet (fail)
      have HW' : Aside (∃ m', World.drewN wr nq = v.drewN m') := ⟨m + nq, by rw [HW.out]; simp [World.drewN, Nat.add_assoc]⟩
      go_wp2
      go_roundg (n - (i + 1))
      case measure => omega
      case rel => exact ⟨i + 1, _, by go_num, by omega, Nat.le_refl _, HW'.out.choose_spec⟩
    · have hltz : ¬ (i : Int) < (n : Int) := by omega
      go_wp2
      go_ret
      exact ⟨rfl, m, HW.out⟩
end Go.Proofs.Yteofffnfafhgfaa

/- The law FcsTurns, walked. Condition: the slice reads as its bytes, at most 2^47 - 4096 of them. -/
import Derived.Test.YtjgpnhpecoijeaaFcsTurnsPlain
namespace Go.Proofs.Ytjgpnhpecoijeaa
open Go.RowKit
open Fcs
set_option linter.unusedVariables false

set_option maxHeartbeats 1000000 in
theorem FcsTurns_near (A : Option Addr) (c : Nat) (l : List UInt8) (wide : Bool) (a m : Int) (w : World) (hr : Rd w A l) (hl : l.length ≤ 300) (ha0 : 0 ≤ a) (ham : a ≤ 9223372036854775807) (hmk : (bits .and .i64 m 65535 == 0) = false) :
    Calls Try.prog 5 #[.slice A l.length c, .bool wide, .int .i64 a, .int .i64 m] w fun e w' => e = .returned (.bool true) ∧ Below w.heap.size w w' := by
  have hb := aliveW_below w
  obtain ⟨W, hW⟩ : ∃ W, W = laidM (laidM w dg) dg := ⟨_, rfl⟩
  rw [← hW] at hb
  have ha := alive_calls w
  rw [← hW] at ha
  clear hW
  have hs : 0 < sumN wide ∧ sumN wide ≤ 4 := by cases wide <;> decide
  have sm := refSum_calls wide A c l W (hr.below hb) (by omega)
  obtain ⟨p, hp⟩ : ∃ p, p = l ++ sumB wide l := ⟨_, rfl⟩
  have hpl : p.length = l.length + sumN wide := by rw [hp, List.length_append, sumB_len]
  have hne : p ≠ [] := by intro h; rw [h] at hpl; simp at hpl; omega
  obtain ⟨n, hn⟩ : ∃ n, n = p.length := ⟨_, rfl⟩
  have hn2 : 2 ≤ n ∧ n ≤ 304 := by rw [hn, hpl]; cases wide <;> simp [sumN] at hs ⊢ <;> omega
  rw [← hp, ← hn] at sm
  have HP := Lib.hid hp
  have HN := Lib.hid hn
  clear hp hn hpl
  go_enter Try.func5, Try.ntmps5
  go_wp2_with fail
  refine ha.mono ?_
  rintro e w' ⟨rfl, rfl⟩
  clear ha
  go_wp2_with fail
  refine sm.mono ?_
  rintro e w2 ⟨A2, c2, rfl, own2, bel2⟩
  clear sm
  have hrow : ∃ g, A2 = some ⟨g, 0, none⟩ ∧ W.heap.size ≤ g ∧ n ≤ c2 ∧ c2 ≤ maxLen ∧ Part w2 g c2 n p := by
    have := Part.of_own own2 hne
    rw [← HN.out] at this
    exact this
  obtain ⟨g, rfl, hg, hnc, hcm, hp2⟩ := hrow
  clear own2
  unfold maxLen at hcm
  go_wp2
  obtain ⟨k, hk⟩ : ∃ k : Nat, a % (8 * (n : Int)) = (k : Int) := ⟨(a % (8 * (n : Int))).toNat, by rw [Int.toNat_of_nonneg (Int.emod_nonneg _ (by omega))]⟩
  have hk8 : k < 8 * n := by
    have := Int.emod_lt_of_pos a (show (0 : Int) < 8 * (n : Int) by omega)
    omega
  rw [hk]
  clear hk hmk ha0 ham
  have b2 := hb.trans (bel2.mono hb.size)
  go_loopw [12, 13] (fun t i wr => ∃ (m : Nat) (q : List UInt8) (t' : Bool), m ≤ 16 ∧ i = .int .i64 m ∧ t = .bool t' ∧ Turns p k m q t' ∧ Part wr g c2 n q ∧ Below W.heap.size W wr) (fun _ i _ => 16 - (intOf i).toNat)
  case atStart => exact ⟨0, p, false, by omega, rfl, rfl, Turns.start p k, hp2, bel2⟩
  case round =>
    obtain ⟨i, q, t, hi, rfl, rfl, htn, hpt, hbw⟩ := hrel
    by_cases h16 : i < 16
    · by_cases hki : k + i < 8 * n
      · have hq : (k + i) / 8 < n := by omega
        obtain ⟨hc, hf⟩ := hpt.at_ hnc _ hq
        unfold bv at hc
        have hql : Hid (q.length = n) := Lib.hid (by rw [htn.1, HN.out])
        by_cases hbit : (bits .and .i64 (m / 2 ^ i) 1 == 1) = true
        · generalize hx : q.getD ((k + i) / 8) 0 = x at hc
          have HX := Lib.hid hx
          clear hx
          go_wp2
          go_roundw
          case rel =>
            have st := hpt.set_ hql.out hnc _ hq (q.getD ((k + i) / 8) 0 ^^^ UInt8.ofBitVec (1#8 <<< ((k + i) % 8)))
            have fl := htn.flip (by rw [← HN.out]; exact hki)
            refine ⟨i + 1, _, true, by omega, by go_num, rfl, fl, ?_, hbw.setCell (p := ⟨g, (k + i) / 8, none⟩) hg _⟩
            have ev : ((q.getD ((k + i) / 8) 0 ^^^ UInt8.ofBitVec (1#8 <<< ((k + i) % 8))).toNat : Int) = bits .xor .u8 (x.toNat : Int) ((2 : Int) ^ ((k + i) % 8) % 256) := by rw [flip_val' _ _ (Nat.mod_lt _ (by decide)), HX.out]
            unfold bv at st
            rw [ev] at st
            exact st
          case measure => simp [intOf]; omega
        · rw [Bool.not_eq_true] at hbit
          go_wp2
          go_roundw
          case rel => exact ⟨i + 1, q, t, by omega, by go_num, rfl, htn.skip, hpt, hbw⟩
          case measure => simp [intOf]; omega
      · have hql : Hid (q.length = n) := Lib.hid (by rw [htn.1, HN.out])
        have ck := check_calls wide (some ⟨g, 0, none⟩) c2 q wr (hpt.reads hql.out) (by rw [hql.out]; omega) (by rw [hql.out]; exact hnc) (by unfold maxLen; exact hcm)
        rw [hql.out] at ck
        have bw := hb.trans (hbw.mono hb.size)
        cases t
        · go_wp2_with fail
          refine ck.mono ?_
          rintro e w5 ⟨B, d, rfl, hB, hb5⟩
          go_wp2
          go_ret
          exact ⟨rfl, bw.trans (hb5.mono bw.size)⟩
        · have hE : chkE wide q = 2 := Turns.told hi (by rw [← HP.out]; exact htn)
          go_wp2_with fail
          refine ck.mono ?_
          rintro e w5 ⟨B, d, rfl, hB, hb5⟩
          rw [hE]
          clear hE
          go_wp2_with fail
          refine (num_calls 2 w5).mono ?_
          rintro e w' ⟨rfl, rfl⟩
          go_wp2
          go_ret
          exact ⟨rfl, bw.trans (hb5.mono bw.size)⟩
    · have hql : Hid (q.length = n) := Lib.hid (by rw [htn.1, HN.out])
      have ck := check_calls wide (some ⟨g, 0, none⟩) c2 q wr (hpt.reads hql.out) (by rw [hql.out]; omega) (by rw [hql.out]; exact hnc) (by unfold maxLen; exact hcm)
      rw [hql.out] at ck
      have bw := hb.trans (hbw.mono hb.size)
      cases t
      · go_wp2_with fail
        refine ck.mono ?_
        rintro e w5 ⟨B, d, rfl, hB, hb5⟩
        go_wp2
        go_ret
        exact ⟨rfl, bw.trans (hb5.mono bw.size)⟩
      · have hE : chkE wide q = 2 := Turns.told hi (by rw [← HP.out]; exact htn)
        go_wp2_with fail
        refine ck.mono ?_
        rintro e w5 ⟨B, d, rfl, hB, hb5⟩
        rw [hE]
        clear hE
        go_wp2_with fail
        refine (num_calls 2 w5).mono ?_
        rintro e w' ⟨rfl, rfl⟩
        go_wp2
        go_ret
        exact ⟨rfl, bw.trans (hb5.mono bw.size)⟩

theorem FcsTurns_far (A : Option Addr) (c : Nat) (l : List UInt8) (wide : Bool) (a m : Int) (w : World) (hr : Rd w A l) (hl : l.length ≤ 140737488355000) (h : 300 < l.length ∨ (l.length ≤ 300 ∧ a < 0) ∨ (l.length ≤ 300 ∧ 0 ≤ a ∧ (bits .and .i64 m 65535 == 0) = true)) :
    Calls Try.prog 5 #[.slice A l.length c, .bool wide, .int .i64 a, .int .i64 m] w fun e w' => e = .returned (.bool true) ∧ Below w.heap.size w w' := by
  have hb := aliveW_below w
  obtain ⟨W, hW⟩ : ∃ W, W = laidM (laidM w dg) dg := ⟨_, rfl⟩
  rw [← hW] at hb
  have ha := alive_calls w
  rw [← hW] at ha
  clear hW
  have sm := refSum_calls wide A c l W (hr.below hb) hl
  rcases h with h | ⟨h, h1⟩ | ⟨h, h1, h2⟩
  all_goals
    go_enter Try.func5, Try.ntmps5
    go_wp2_with fail
    refine ha.mono ?_
    rintro e w' ⟨rfl, rfl⟩
    clear ha
    go_wp2_with fail
    refine sm.mono ?_
    rintro e w2 ⟨A2, c2, rfl, own2, bel2⟩
    clear sm
    go_wp2
    go_ret
    exact ⟨rfl, hb.trans (bel2.mono hb.size)⟩
theorem FcsTurns_walk (a0 : Option Addr) (len0 cap0 : Nat) (z0 : List Int) (a1 : Bool) (a2 : Int) (a3 : Int) (w : World)
    (h : (a0 = none ∧ len0 = 0 ∧ cap0 = 0 ∧ z0 = []) ∨ ∃ x, a0 = some x ∧ len0 ≤ cap0 ∧ cap0 ≤ maxLen ∧ z0.length = cap0 ∧ (∀ i, i < z0.length → w.cell? (x.add i) = some (.int .u8 (z0.getD i 0))) ∧ ∀ n ∈ z0, (Lit.int .u8 n).wf = true)
    (w2 : (Lit.int .i64 a2).wf = true) (w3 : (Lit.int .i64 a3).wf = true) (hz : cap0 ≤ 140737488351232) :
    Calls Try.prog 5 #[.slice a0 len0 cap0, .bool a1, .int .i64 a2, .int .i64 a3] w fun e w' => e = .returned (.bool true) ∧ Below w.heap.size w w' := by
  obtain ⟨l, rfl, hc, hm, hr⟩ := Rd.of_row h
  have bd := bounds_i64 w2
  by_cases hl : 300 < l.length
  · exact FcsTurns_far a0 cap0 l a1 a2 a3 w hr (by omega) (.inl hl)
  · by_cases h0 : a2 < 0
    · exact FcsTurns_far a0 cap0 l a1 a2 a3 w hr (by omega) (.inr (.inl ⟨by omega, h0⟩))
    · by_cases hb : (bits .and .i64 a3 65535 == 0) = true
      · exact FcsTurns_far a0 cap0 l a1 a2 a3 w hr (by omega) (.inr (.inr ⟨by omega, by omega, hb⟩))
      · exact FcsTurns_near a0 cap0 l a1 a2 a3 w hr (by omega) (by omega) bd.2 (by simpa using hb)
end Go.Proofs.Ytjgpnhpecoijeaa

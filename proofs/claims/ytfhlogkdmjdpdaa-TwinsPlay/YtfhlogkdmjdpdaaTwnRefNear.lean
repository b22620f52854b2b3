/- Fresh of a table of the reference: all its ways. Condition: it has heard at most 1000 numbers. -/
import Derived.Test.YtfhlogkdmjdpdaaTwnRefUp
namespace Go.Proofs.Ytfhlogkdmjdpdaa
open Go.RowKit
set_option linter.unusedVariables false

section
variable {w : World} {base b N : Nat} {m : Tb} {A : Option Addr} {c hi : Nat} {L : List Nat} {n : Nat}
/-- j of what came looked at, n not among them -/
def NRel (w : World) (n len : Nat) (L : List Nat) (s9 : Value) (v : World) : Prop := ∃ j : Nat, j ≤ len ∧ s9 = .int .i64 j ∧ v = w ∧ Aside (n ∉ L.take j)
set_option maxHeartbeats 400000 in
theorem rfresh_near (h : RT w base b N m A c hi L) (hN : N ≤ 1000) (hbase : base ≤ w.heap.size) (hk : m.kn = true) (hn : n < 4294967296) (h0 : 2147483648 ≤ m.ahead n) (h1 : m.behind n < m.S) :
    Calls Try.prog 14 #[.pointer (some ⟨b, 0, none⟩), .int .u32 (n : Int)] w fun e w' => e = .returned (.bool (!decide (n ∈ L))) ∧ RX w' base b (N + 1) (m.mark (m.behind n)) ∧ Only (Fo base b) w w' := by
  have k0 := h.cells
  rw [hk, (h.yes hk).1] at k0
  obtain ⟨c0, c1, c2, c3⟩ := rcell k0
  have hh := h.ok.hi
  have hs := h.ok.size
  have hal := m.ahead_lt n
  have e1 : ((n : Int) - (m.hi : Int)) % 4294967296 = (m.ahead n : Int) := by unfold Tb.ahead; omega
  have e1' : IntKind.u32.wrap ((n : Int) - (m.hi : Int)) = (m.ahead n : Int) := by rw [IntKind.wrap_u32]; exact e1
  have e2 : ((m.hi : Int) - (n : Int)) % 4294967296 = (m.behind n : Int) := by unfold Tb.behind; omega
  have e2' : IntKind.u32.wrap ((m.hi : Int) - (n : Int)) = (m.behind n : Int) := by rw [IntKind.wrap_u32]; exact e2
  have HY := Lib.hid (show n ∈ L → RX w base b (N + 1) (m.mark (m.behind n)) ∧ Only (Fo base b) w w from fun hm => by
    rw [(h.yes hk).2.same h.ok hk hn h1 hm]
    exact ⟨⟨A, c, hi, L, h.cells, h.own, h.low, Nat.le_succ_of_le h.few, h.ok, h.hib, h.yes, h.no⟩, Only.refl _ _⟩)
  obtain ⟨A2, cc2, v2, run, own2, on2, kin⟩ := h.own.app ntU hbase (by have := h.few; omega) n
  have hlow := h.low
  have nb : ¬ blk A = some b := fun e => by have := h.own.blk_ge b e; omega
  have kb2 := (on2.block b (lt_of_block k0) nb).trans k0
  have d3 := (rcell kb2).2.2.2
  have z3 := frozen_of_row v2 b 3 _ _ kb2
  have HNO := Lib.hid (show RX (v2.setCell ⟨b, 3, none⟩ (.slice A2 (L.length + 1) cc2)) base b (N + 1) (m.mark (m.behind n)) ∧ Only (Fo base b) w (v2.setCell ⟨b, 3, none⟩ (.slice A2 (L.length + 1) cc2)) from by
    have hll : (L ++ [n]).length = L.length + 1 := by simp
    refine ⟨⟨A2, cc2, m.hi, L ++ [n], ?_, own2.only (only_put (Only.refl _ v2) 3 _) (fun j hj e => ?_), hlow, ?_, ⟨h.ok.size, h.ok.hi⟩, h.ok.hi, fun _ => ⟨rfl, (h.yes hk).2.mark h.ok hn h1⟩, fun e => (by cases e)⟩, ?_⟩
    · rw [hll]
      exact rset_came kb2 A2 (L.length + 1) cc2
    · have := own2.blk_ge j hj
      omega
    · rw [hll]
      have := h.few
      omega
    · refine ((on2.mono (G := Fo base b) (fun i _ e => .inr (h.own.blk_ge i e).1)).trans (only_put (Only.refl (fun k => k = b) v2) 3 _) (fun i _ e => .inl e)))
  have HO := Lib.hid h.own
  generalize m.ahead n = k at *
  generalize m.behind n = r at *
  have i2 : (m.S : Int) ≤ 4096 := by omega
  have b0 : ((k : Int) == 0) = false := by rw [beq_eq_false_iff_ne]; omega
  have b0' : (k == 0) = false := by rw [beq_eq_false_iff_ne]; omega
  have b1 : decide ((k : Int) < 2147483648) = false := by simp; omega
  have b1' : decide (k < 2147483648) = false := by simp; omega
  have b2 : decide ((m.S : Int) ≤ (r : Int)) = false := by simp; omega
  have b2' : decide (m.S ≤ r) = false := by simp; omega
  have hfew := h.few
  obtain ⟨len, hlen⟩ : ∃ len, L.length = len := ⟨_, rfl⟩
  rw [hlen] at c3 hfew run HNO d3
  have HL := Lib.hid hlen
  have hlz : (len : Int) ≤ 1000 := by omega
  clear h hk h0 k0 hh h1 hbase hlen hn hfew hN hs own2 on2 kin hlow nb kb2 hal
  go_enter Try.func14, Try.ntmps14
  go_wp2_with fail
  clear e1 e1' b0 b0' b1 b1' b2 b2' e2 e2' c0 c1 c2
  go_loopw [9] (NRel w n len L) (fun i _ => len - (intOf i).toNat)
  case atStart => exact ⟨0, Nat.zero_le _, rfl, rfl, by show n ∉ L.take 0; simp⟩
  case round =>
    obtain ⟨j, hj, rfl, rfl, HNI⟩ := hrel
    by_cases hjl : j < len
    · have hjz : (j : Int) < (len : Int) := by omega
      have hne : L ≠ [] := by
        rintro rfl
        have := HL.out
        simp at this
        omega
      obtain ⟨g, rfl, hg1, hg2, _, hcell, _⟩ := HO.out.parts hne
      have hjL : j < L.length := by rw [HL.out]; exact hjl
      have hcx := hcell j hjL
      have hmem : L.getD j 0 ∈ L := by simp [hjL]
      have htk : L.take (j + 1) = L.take j ++ [L.getD j 0] := by
        rw [List.take_succ_eq_append_getElem hjL]
        simp [hjL]
      rw [Nat.zero_add] at hcx
      clear hcell hne hg1 hg2
      generalize L.getD j 0 = x at hcx hmem htk
      by_cases hx : x = n
      · subst hx
        have FIN := Lib.hid (And.intro (show (!decide (x ∈ L)) = false by simp [hmem]) (HY.out hmem))
        clear hmem htk HY HNO HO HNI run d3 z3
        go_wp2
        go_ret
        exact ⟨by rw [FIN.out.1]; rfl, FIN.out.2⟩
      · have hxz : ((x : Int) == (n : Int)) = false := by rw [beq_eq_false_iff_ne]; omega
        have hxn : (x == n) = false := by rw [beq_eq_false_iff_ne]; exact hx
        have FIN := Lib.hid (show n ∉ L.take (j + 1) from by
          rw [htk, List.mem_append, List.mem_singleton]
          rintro (e | e)
          · exact HNI.out e
          · exact hx e.symm)
        clear hmem htk HNI hx run d3 z3
        go_wp2
        go_roundw
        case measure => simp [intOf]; omega
        case rel => exact ⟨j + 1, by omega, by go_num, rfl, FIN.out⟩
    · have hjz : ¬ (j : Int) < (len : Int) := by omega
      have FIN := Lib.hid (And.intro (show (!decide (n ∈ L)) = true by
        have := HNI.out
        rw [List.take_of_length_le (by rw [HL.out]; omega)] at this
        simp [this]) HNO.out)
      clear HY HNO HO HNI
      go_wp2_with (at_builtin; refine Lib.wpList_append_run _ rfl _ _ _ _ rfl _ _ rfl rfl _ _ (run _) ?_)
      go_ret
      exact ⟨by rw [FIN.out.1]; rfl, FIN.out.2⟩
theorem RX.more (h : RX w base b N m) : RX w base b (N + 1) m := by
  obtain ⟨A, c, hi, L, h⟩ := h
  exact ⟨A, c, hi, L, h.cells, h.own, h.low, Nat.le_succ_of_le h.few, h.ok, h.hib, h.yes, h.no⟩
theorem rfresh_calls (h : RX w base b N m) (hN : N ≤ 1000) (hbase : base ≤ w.heap.size) (hn : n < 4294967296) :
    Calls Try.prog 14 #[.pointer (some ⟨b, 0, none⟩), .int .u32 (n : Int)] w fun e w' => e = .returned (.bool (m.isNew n)) ∧ RX w' base b (N + 1) (m.got n) ∧ Only (Fo base b) w w' := by
  have hx := h
  obtain ⟨A, c, hi, L, h⟩ := h
  unfold Tb.isNew Tb.got
  by_cases hk : m.kn = false
  · rw [if_pos hk, if_pos hk]
    exact rfresh_first h hbase hk hn
  · rw [if_neg hk, if_neg hk]
    have hk' : m.kn = true := by simpa using hk
    by_cases h0 : m.ahead n = 0
    · rw [if_pos h0, if_pos h0]
      refine (rfresh_same h hk' h0).mono ?_
      rintro e w' ⟨rfl, rfl⟩
      exact ⟨rfl, hx.more, Only.refl _ _⟩
    · rw [if_neg h0, if_neg h0]
      by_cases h1 : m.ahead n < 2147483648
      · rw [if_pos h1, if_pos h1]
        exact rfresh_up h hN hbase hk' hn h0 h1
      · rw [if_neg h1, if_neg h1]
        by_cases h2 : m.S ≤ m.behind n
        · rw [if_pos h2, if_pos h2]
          refine (rfresh_far h hk' hn (by omega) h2).mono ?_
          rintro e w' ⟨rfl, rfl⟩
          exact ⟨rfl, hx.more, Only.refl _ _⟩
        · rw [if_neg h2, if_neg h2]
          have e : m.arr (m.behind n) = decide (n ∈ L) := by
            have := (h.yes hk').2.at_ h.ok hn (by omega)
            cases ha : m.arr (m.behind n) with
            | true => rw [decide_eq_true (this.1 ha)]
            | false => rw [decide_eq_false (fun hm => by rw [this.2 hm] at ha; cases ha)]
          rw [e]
          exact rfresh_near h hN hbase hk' hn (by omega) (by omega)
end
end Go.Proofs.Ytfhlogkdmjdpdaa

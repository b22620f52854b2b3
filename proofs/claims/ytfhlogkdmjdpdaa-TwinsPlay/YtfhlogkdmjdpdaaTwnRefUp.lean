/- Fresh of a table of the reference: a number that is ahead. Condition: it has heard at most 1000 numbers. -/
import Derived.Test.YtfhlogkdmjdpdaaTwnRefFresh
namespace Go.Proofs.Ytfhlogkdmjdpdaa
open Go.RowKit
set_option linter.unusedVariables false

section
variable {w : World} {base b N : Nat} {m : Tb} {A : Option Addr} {c hi : Nat} {L : List Nat} {n : Nat}
/-- i of what came looked at; what stays lies in a row of its own -/
def URel (w1 : World) (n S len : Nat) (L : List Nat) (s7 s8 : Value) (v : World) : Prop :=
  ∃ (i : Nat) (A' : Option Addr) (c' q : Nat), i ≤ len ∧ s8 = .int .i64 i ∧ s7 = .slice A' q c' ∧ Aside ((fi n S (L.take i)).length = q) ∧ Aside (NOwn 30 .u32 v w1.heap.size A' c' (fi n S (L.take i))) ∧ Aside (Below w1.heap.size w1 v)
set_option maxHeartbeats 400000 in
theorem rfresh_up (h : RT w base b N m A c hi L) (hN : N ≤ 1000) (hbase : base ≤ w.heap.size) (hk : m.kn = true) (hn : n < 4294967296) (h0 : m.ahead n ≠ 0) (h1 : m.ahead n < 2147483648) :
    Calls Try.prog 14 #[.pointer (some ⟨b, 0, none⟩), .int .u32 (n : Int)] w fun e w' => e = .returned (.bool true) ∧ RX w' base b (N + 1) (m.up n) ∧ Only (Fo base b) w w' := by
  have k0 := h.cells
  rw [hk, (h.yes hk).1] at k0
  obtain ⟨c0, c1, c2, c3⟩ := rcell k0
  have z2 := frozen_of_row w b 2 _ _ k0
  have k1 := rset_hi k0 n
  have hh := h.ok.hi
  have hs := h.ok.size
  have H := Lib.hid h
  have HF := Lib.hid (show RL (m.up n) (fi n m.S L ++ [n]) from (h.yes hk).2.up h.ok hn h1 h0)
  have o1 : Only (fun k => k = b) w (w.setCell ⟨b, 2, none⟩ (.int .u32 (n : Int))) := only_put (Only.refl _ w) 2 _
  have own1 : NOwn 30 .u32 (w.setCell ⟨b, 2, none⟩ (.int .u32 (n : Int))) base A c L := h.own.only o1 (fun i hi e => by have := h.own.blk_ge i hi; have := h.low; omega)
  have hs1 : (w.setCell ⟨b, 2, none⟩ (.int .u32 (n : Int))).heap.size = w.heap.size := by simp [World.setCell]
  have e1 : ((n : Int) - (m.hi : Int)) % 4294967296 = (m.ahead n : Int) := by unfold Tb.ahead; omega
  have e1' : IntKind.u32.wrap ((n : Int) - (m.hi : Int)) = (m.ahead n : Int) := by rw [IntKind.wrap_u32]; exact e1
  generalize m.ahead n = k at *
  have b0 : ((k : Int) == 0) = false := by rw [beq_eq_false_iff_ne]; omega
  have b0' : (k == 0) = false := by rw [beq_eq_false_iff_ne]; omega
  have b1 : decide ((k : Int) < 2147483648) = true := by simp; omega
  have b1' : decide (k < 2147483648) = true := by simp; omega
  obtain ⟨S, hS⟩ : ∃ S, m.S = S := ⟨_, rfl⟩
  have hfew := h.few
  obtain ⟨len, hlen⟩ : ∃ len, L.length = len := ⟨_, rfl⟩
  rw [hlen] at c3 k1 hfew
  rw [hS] at c0 k1 HF hs
  have i2 : (S : Int) ≤ 4096 := by omega
  have HL := Lib.hid hlen
  have HSS := Lib.hid hS
  have HN := Lib.hid hn
  have HK := Lib.hid hk
  have HB := Lib.hid hbase
  have hlz : (len : Int) ≤ 1000 := by omega
  obtain ⟨w1, hw1⟩ : ∃ w1, w.setCell ⟨b, 2, none⟩ (.int .u32 (n : Int)) = w1 := ⟨_, rfl⟩
  rw [hw1] at k1 o1 own1 hs1
  have K1 := Lib.hid k1
  have O1 := Lib.hid o1
  have OWN1 := Lib.hid own1
  have HS1 := Lib.hid hs1
  clear h hk h0 k0 hh h1 hbase k1 o1 own1 hs1 hlen hS hn hfew hN hs
  go_enter Try.func14, Try.ntmps14
  go_wp2_with fail
  clear hw1 c0 c1 c2 c3 z2 e1 e1' b0 b0' b1 b1'
  go_loopw [7, 8] (URel w1 n S len L) (fun _ i _ => len - (intOf i).toNat)
  case atStart => exact ⟨0, none, 0, 0, Nat.zero_le _, rfl, rfl, rfl, NOwn.nil _ _ _ _, Below.refl _ _⟩
  case round =>
    obtain ⟨i, A', c', q, hi, rfl, rfl, HQ, HO, HW⟩ := hrel
    have kb := (HW.out.block b (lt_of_block K1.out)).trans K1.out
    have c3 := (rcell kb).2.2.2
    by_cases hil : i < len
    · have hiz : (i : Int) < (len : Int) := by omega
      have hne : L ≠ [] := by
        rintro rfl
        have := HL.out
        simp at this
        omega
      obtain ⟨g, rfl, hg1, hg2, _, hcell, _⟩ := OWN1.out.parts hne
      have hiL : i < L.length := by rw [HL.out]; exact hil
      have hcx := (HW.out.cell (p := ⟨g, 0 + i, none⟩) hg2).trans (hcell i hiL)
      have hft := fi_take n S L hiL
      have hxl : L.getD i 0 < 4294967296 := ((H.out.yes HK.out).2.all _ (by simp [hiL])).1
      rw [Nat.zero_add] at hcx
      clear hcell hne hg1 hg2 kb
      generalize L.getD i 0 = x at hcx hft hxl
      have e3 : ((n : Int) - (x : Int)) % 4294967296 = (((n + 4294967296 - x) % 4294967296 : Nat) : Int) := by omega
      have e3' : IntKind.u32.wrap ((n : Int) - (x : Int)) = (((n + 4294967296 - x) % 4294967296 : Nat) : Int) := by rw [IntKind.wrap_u32]; exact e3
      generalize (n + 4294967296 - x) % 4294967296 = y at *
      by_cases hy : y < S
      · rw [if_pos hy] at hft
        have hyz : decide ((y : Int) < (S : Int)) = true := by simp; omega
        have hyn : decide (y < S) = true := by simp; omega
        have hfl := fi_len n S (L.take i)
        obtain ⟨A2, c2, v2, run, own2, on2, _⟩ := HO.out.app ntU HW.out.size (by
          have : (L.take i).length ≤ i := by simp; omega
          omega) x
        rw [HQ.out] at run
        have FIN := Lib.hid (show (fi n S (L.take (i + 1))).length = q + 1 ∧ NOwn 30 .u32 v2 w1.heap.size A2 c2 (fi n S (L.take (i + 1))) ∧ Below w1.heap.size w1 v2 from by
          rw [hft]
          refine ⟨by rw [List.length_append, HQ.out]; rfl, own2, HW.out.trans (on2.below (fun j hj => (HO.out.blk_ge j hj).1) HW.out.size)⟩)
        clear hft own2 on2 HQ HO HW hfl hy hxl
        go_wp2_with (at_builtin; refine Lib.wpList_append_run _ rfl _ _ _ _ rfl _ _ rfl rfl _ _ (run _) ?_)
        go_roundw
        case measure => simp [intOf]; omega
        case rel => exact ⟨i + 1, A2, c2, q + 1, by omega, by go_num, rfl, FIN.out.1, FIN.out.2.1, FIN.out.2.2⟩
      · rw [if_neg hy] at hft
        have hyz : decide ((y : Int) < (S : Int)) = false := by simp; omega
        have hyn : decide (y < S) = false := by simp; omega
        have FIN := Lib.hid (show (fi n S (L.take (i + 1))).length = q ∧ NOwn 30 .u32 wr w1.heap.size A' c' (fi n S (L.take (i + 1))) ∧ Below w1.heap.size w1 wr from by
          rw [hft]
          exact ⟨HQ.out, HO.out, HW.out⟩)
        clear hft HQ HO HW hy hxl
        go_wp2
        go_roundw
        case measure => simp [intOf]; omega
        case rel => exact ⟨i + 1, A', c', q, by omega, by go_num, rfl, FIN.out.1, FIN.out.2.1, FIN.out.2.2⟩
    · have hiz : ¬ (i : Int) < (len : Int) := by omega
      have hit : L.take i = L := List.take_of_length_le (by rw [HL.out]; omega)
      have hfl := fi_len n S L
      have hfew := H.out.few
      have HO' := HO.out
      have HQ' := HQ.out
      rw [hit] at HO' HQ'
      rw [HL.out] at hfl
      obtain ⟨A2, c2, v2, run, own2, on2, kin⟩ := HO'.app ntU HW.out.size (by omega) n
      rw [HQ'] at run
      have bel2 : Below w1.heap.size w1 v2 := HW.out.trans (on2.below (fun j hj => (HO'.blk_ge j hj).1) HW.out.size)
      have kb2 := (bel2.block b (lt_of_block K1.out)).trans K1.out
      have d3 := (rcell kb2).2.2.2
      have z3 := frozen_of_row v2 b 3 _ _ kb2
      have FIN := Lib.hid (show RX (v2.setCell ⟨b, 3, none⟩ (.slice A2 (q + 1) c2)) base b (N + 1) (m.up n) ∧ Only (Fo base b) w (v2.setCell ⟨b, 3, none⟩ (.slice A2 (q + 1) c2)) from by
        have hlow := H.out.low
        have hs1 := HS1.out
        have hbb := HB.out
        have hlb := lt_of_block K1.out
        have hll : (fi n S L ++ [n]).length = q + 1 := by rw [List.length_append, HQ']; rfl
        refine ⟨⟨A2, c2, n, fi n S L ++ [n], ?_, (own2.lower (by omega)).only (only_put (Only.refl _ v2) 3 _) (fun j hj e => ?_), hlow, ?_, ⟨H.out.ok.size, HN.out⟩, HN.out, fun _ => ⟨rfl, HF.out⟩, fun e => (by cases e)⟩, ?_⟩
        · rw [hll]
          have := rset_came kb2 A2 (q + 1) c2
          rw [this, ← HSS.out]
          rfl
        · have := own2.blk_ge j hj
          omega
        · rw [hll, ← HQ']
          have := HL.out
          omega
        · exact only_b (only_put (O1.out.trans (Only.of_below (fun _ => False) bel2) (fun _ _ h => h.elim)) 3 _))
      clear hit hfl hfew HO' HQ' own2 on2 kin bel2 kb2 HO HW kb
      go_wp2_with (at_builtin; refine Lib.wpList_append_run _ rfl _ _ _ _ rfl _ _ rfl rfl _ _ (run _) ?_)
      go_ret
      exact ⟨rfl, FIN.out⟩
end
end Go.Proofs.Ytfhlogkdmjdpdaa

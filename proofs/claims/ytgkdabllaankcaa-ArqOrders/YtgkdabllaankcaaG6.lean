/- Package arq walked, part 6 of 15 (merged texts: AqPass, AqPass2, AlAck, AqAck, AoAdv, AoPut). No condition. -/
import Derived.Test.YtgkdabllaankcaaG5
import Derived.Deep.RegionHeld
import Derived.Test.YtgkdabllaankcaaG3
import Derived.Deep.LoopGhost
import Derived.Deep.RegionLaw
/- ask, expire and Pass of an end of a session. Condition: room for the outputs and indications; at most 100 tries. -/
namespace Go.Proofs.Ytgkdabllaankcaa
open Go.RowKit
set_option linter.unusedVariables false

section
variable {w : World} {F : Nat → Prop} {b : Nat} {s : Aq}
set_option maxRecDepth 20000 in
set_option maxHeartbeats 1000000 in
theorem aqAsk_calls (h : AqP w F b s) (hf : s.os.length ≤ 1000000) : Calls Try.prog 49 #[.pointer (some ⟨b, 0, none⟩)] w fun r w' => r = .returned (.tuple #[]) ∧ AqTurn F b s.ask w w' := by
  have OC := aqOut_calls h
  have HP := Lib.hid h
  by_cases hL : s.lg.out = []
  · have es : s.ask = s := by unfold Aq.ask; rw [if_pos hL]
    rw [hL] at OC
    rw [es]
    clear h hf es hL
    go_enter Try.func49, Try.ntmps49
    go_wp2_with fail
    refine OC.mono ?_
    rintro e w1 ⟨A, c, rfl, row, be⟩
    have FI := Lib.hid ((AqTurn.refl (HP.out.below be)).after be HP.out.lt)
    clear row be OC
    go_wp2
    refine bodyPost_ret (results_none rfl _ _ _) rfl ?_
    exact ⟨rfl, FI.out⟩
  · have es : s.ask = s.sendM (s.lg.out.getD 0 0 : Nat) (s.lg.body (s.lg.out.getD 0 0 : Nat)) true := by unfold Aq.ask; rw [if_neg hL]
    rw [es]
    have hp := List.length_pos_iff.2 hL
    have hx : s.lg.out.getD 0 0 < 32768 := by
      have hm : s.lg.out.getD 0 0 ∈ s.lg.out := by simp [hp]
      unfold Lg.out at hm
      obtain ⟨i, _, e⟩ := List.mem_map.1 hm
      have h8 := h.2.lg.m8
      have h9 := h.2.lg.m9
      have := Nat.mod_lt (s.lg.f + i) (show 0 < s.lg.m by omega)
      unfold Lg.out
      omega
    have BC := fun w2 (be : Below w.heap.size w w2) => aqBody_calls (h.below be) (s.lg.out.getD 0 0 : Nat) (by unfold I64; omega)
    have hbs := body_small h.2 (s.lg.out.getD 0 0 : Nat)
    have hn0 : ((s.lg.out.length : Int) == 0) = false := beq_eq_false_iff_ne.2 (by omega)
    have SM := fun w2 (be : Below w.heap.size w w2) B d rd => aqSendM_calls (h.below be) hf (s.lg.out.getD 0 0 : Nat) B d (s.lg.body (s.lg.out.getD 0 0 : Nat)) rd (by omega) true
    have HBC := Lib.hid BC
    have HSM := Lib.hid SM
    clear BC SM es hf h
    generalize s.sendM (s.lg.out.getD 0 0 : Nat) (s.lg.body (s.lg.out.getD 0 0 : Nat)) true = s3 at *
    generalize s.lg.has (s.lg.out.getD 0 0 : Nat) = q at *
    generalize s.lg.body (s.lg.out.getD 0 0 : Nat) = X at *
    generalize s.lg.out = L at *
    generalize hxx : L.getD 0 0 = x at *
    generalize hn : L.length = n at *
    go_enter Try.func49, Try.ntmps49
    go_wp2_with fail
    refine OC.mono ?_
    rintro e w1 ⟨A, c, rfl, row, be⟩
    obtain ⟨g, rfl, hg1, hg2, hlc, hcell, _⟩ := row.parts hL
    have k1 := hcell 0 (by omega)
    rw [hxx, Nat.zero_add] at k1
    have k1d : w1.drew.cell? ⟨g, 0, none⟩ = some (.int .i64 (x : Int)) := k1
    have hn1 : (0 : Int) < (n : Int) := by omega
    have BB := HBC.out w1.drew be.drew
    have HBE := Lib.hid be
    clear OC row be hcell hxx hL
    rw [hn]
    go_wp2_with fail
    go_region_held (fun v => v.cell? ⟨g, 0, none⟩ = some (.int .i64 (x : Int))) (first | (with_reducible exact k1d) | (with_reducible exact k2))
      ((go_at_call 51; refine BB.mono ?_; rintro e w2 ⟨B, d, rfl, rd, be2⟩; have be3 : Below w.heap.size w w2 := HBE.out.drew.trans (be2.mono HBE.out.drew.size); have k2 : w2.cell? ⟨g, 0, none⟩ = some (.int .i64 (x : Int)) := (be2.cell (p := ⟨g, 0, none⟩) hg2).trans k1))
    have SS := HSM.out w2 be3 B d rd
    have HBE3 := Lib.hid be3
    clear be2 be3 rd BB k1 k1d
    go_wp2_with fail
    refine SS.mono ?_
    rintro e w3 ⟨rfl, T⟩
    have FI := Lib.hid (T.after HBE3.out HP.out.lt)
    clear T SS
    go_wp2
    go_end0
    exact ⟨rfl, FI.out⟩
theorem aqLate_eq (s : Aq) : (s.st = 1 → s.late = s.send 3 true) ∧ (s.st = 3 → s.late = s.send 5 true) ∧ (s.st = 2 → s.late = s.ask) ∧ (s.st = 0 → s.late = s) := by
  unfold Aq.late
  refine ⟨fun h => by rw [h]; rfl, fun h => by rw [h]; rfl, fun h => by rw [h]; rfl, fun h => by rw [h]; rfl⟩
set_option maxRecDepth 20000 in
set_option maxHeartbeats 2000000 in
theorem aqExpire_calls (h : AqP w F b s) (htr : s.tr ≤ 100) (hf : s.os.length ≤ 1000000) (hi : s.is.length ≤ 1000000) (hlo : s.lo ≤ 1000000000000) :
    Calls Try.prog 28 #[.pointer (some ⟨b, 0, none⟩)] w fun r w' => r = .returned (.tuple #[]) ∧ AqTurn F b s.expire w w' := by
  obtain ⟨W1, hW⟩ : ∃ W1, w.setCell ⟨b, 18, none⟩ (.int .i64 ((s.tr : Int) + 1)) = W1 := ⟨_, rfl⟩
  have T1 : AqTurn F b (s.setTr (s.tr + 1)) w W1 := by rw [← hW]; exact h.setTr _
  have c18 := h.c18
  have z18 := h.z 18
  have d18 : W1.cell? ⟨b, 18, none⟩ = some (.int .i64 ((s.tr : Int) + 1)) := T1.1.c18
  have d2 : W1.cell? ⟨b, 2, none⟩ = some (.int .i64 (s.n2 : Int)) := T1.1.c2
  have HT1 := Lib.hid T1
  by_cases hx : s.n2 < s.tr + 1
  · have es : s.expire = (s.setTr (s.tr + 1)).fin := by unfold Aq.expire; rw [if_pos hx]
    have g : ((s.n2 : Int) < (s.tr : Int) + 1) := by omega
    have g' : decide ((s.n2 : Int) < (s.tr : Int) + 1) = true := decide_eq_true g
    have FC := fun q => aqFin_calls (T1.1.drewN q) hlo hi
    rw [es]
    clear es h T1 hf hi hlo hx
    generalize (s.setTr (s.tr + 1)).fin = s' at *
    go_enter Try.func28, Try.ntmps28
    go_wp2_with fail
    go_quiet (fail)
    go_wp2_with fail
    refine (FC _).mono ?_
    rintro e w2 ⟨rfl, T⟩
    have FI := Lib.hid (HT1.out.trans T.from_drewN)
    clear T FC
    go_wp2
    refine bodyPost_ret (results_none rfl _ _ _) rfl ?_
    exact ⟨rfl, FI.out⟩
  · have es : s.expire = (s.setTr (s.tr + 1)).start.late := by unfold Aq.expire; rw [if_neg hx]
    have g' : decide ((s.n2 : Int) < (s.tr : Int) + 1) = false := decide_eq_false (by omega)
    have ST := fun q => aqStart_calls (T1.1.drewN q)
    have hst := h.2.st3
    obtain ⟨l1, l3, l2, l0⟩ := aqLate_eq (s.setTr (s.tr + 1)).start
    have HL := Lib.hid (show ∀ w2, AqTurn F b (s.setTr (s.tr + 1)).start w w2 → w2.cell? ⟨b, 4, none⟩ = some (.int .i64 (s.st : Int)) ∧
      (∀ k p, Calls Try.prog 33 #[.pointer (some ⟨b, 0, none⟩), .int .i64 k, .bool p] w2 fun r w' => r = .returned (.tuple #[]) ∧ AqTurn F b ((s.setTr (s.tr + 1)).start.send k p) w w') ∧
      Calls Try.prog 49 #[.pointer (some ⟨b, 0, none⟩)] w2 fun r w' => r = .returned (.tuple #[]) ∧ AqTurn F b (s.setTr (s.tr + 1)).start.ask w w' from fun w2 T =>
        ⟨T.1.c4, fun k p => (aqSend_calls T.1 hf k p).mono (by rintro e w' ⟨rfl, T'⟩; exact ⟨rfl, T.trans T'⟩), (aqAsk_calls T.1 hf).mono (by rintro e w' ⟨rfl, T'⟩; exact ⟨rfl, T.trans T'⟩)⟩)
    have HS : s.st = (s.setTr (s.tr + 1)).start.st := rfl
    rw [es]
    rw [← HS] at l1 l2 l3 l0
    clear es h T1 hf hi hlo hx HS
    generalize (s.setTr (s.tr + 1)).start.late = s9 at *
    generalize (s.setTr (s.tr + 1)).start = s1 at *
    generalize s.st = st at *
    have hcase : st = 1 ∨ st = 3 ∨ st = 2 ∨ st = 0 := by omega
    clear hst
    rcases hcase with rfl | rfl | rfl | rfl
    case inl =>
      have e9 := l1 rfl
      clear l1 l2 l3 l0
      subst e9
      go_enter Try.func28, Try.ntmps28
      go_wp2_with fail
      go_quiet (fail)
      go_wp2_with fail
      refine (ST _).mono ?_
      rintro e w2 ⟨rfl, T⟩
      obtain ⟨c4, SC, -⟩ := HL.out w2 (HT1.out.trans T.from_drewN)
      clear T ST HL
      go_wp2_with fail
      refine (SC _ _).mono ?_
      rintro e w3 ⟨rfl, T⟩
      have FI := Lib.hid T
      clear T SC
      go_wp2
      go_end0
      exact ⟨rfl, FI.out⟩
    case inr.inl =>
      have e9 := l3 rfl
      clear l1 l2 l3 l0
      subst e9
      go_enter Try.func28, Try.ntmps28
      go_wp2_with fail
      go_quiet (fail)
      go_wp2_with fail
      refine (ST _).mono ?_
      rintro e w2 ⟨rfl, T⟩
      obtain ⟨c4, SC, -⟩ := HL.out w2 (HT1.out.trans T.from_drewN)
      clear T ST HL
      go_wp2_with fail
      refine (SC _ _).mono ?_
      rintro e w3 ⟨rfl, T⟩
      have FI := Lib.hid T
      clear T SC
      go_wp2
      go_end0
      exact ⟨rfl, FI.out⟩
    case inr.inr.inl =>
      have e9 := l2 rfl
      clear l1 l2 l3 l0
      subst e9
      go_enter Try.func28, Try.ntmps28
      go_wp2_with fail
      go_quiet (fail)
      go_wp2_with fail
      refine (ST _).mono ?_
      rintro e w2 ⟨rfl, T⟩
      obtain ⟨c4, -, SC⟩ := HL.out w2 (HT1.out.trans T.from_drewN)
      clear T ST HL
      go_wp2_with fail
      refine SC.mono ?_
      rintro e w3 ⟨rfl, T⟩
      have FI := Lib.hid T
      clear T SC
      go_wp2
      go_end0
      exact ⟨rfl, FI.out⟩
    case inr.inr.inr =>
      have e9 := l0 rfl
      clear l1 l2 l3 l0
      subst e9
      go_enter Try.func28, Try.ntmps28
      go_wp2_with fail
      go_quiet (fail)
      go_wp2_with fail
      refine (ST _).mono ?_
      rintro e w2 ⟨rfl, T⟩
      have c4 := (HL.out w2 (HT1.out.trans T.from_drewN)).1
      have FI := Lib.hid (HT1.out.trans T.from_drewN)
      clear T ST HL
      go_wp2
      go_end0
      exact ⟨rfl, FI.out⟩
end
end Go.Proofs.Ytgkdabllaankcaa
/- Pass of an end of a session. Condition: room for the outputs and indications; at most 100 tries. -/
namespace Go.Proofs.Ytgkdabllaankcaa
open Go.RowKit
set_option linter.unusedVariables false

namespace Aq
theorem passN_eq : ∀ (f g n : Nat) (s : Aq), n < f → n < g → passN f n s = passN g n s
  | 0, _, _, _, h, _ => absurd h (Nat.not_lt_zero _)
  | _, 0, _, _, _, h => absurd h (Nat.not_lt_zero _)
  | f + 1, g + 1, n, s, h1, h2 => by
    unfold passN
    split
    · next hc => exact passN_eq f g _ _ (by omega) (by omega)
    · rfl
def passP (n : Nat) (s : Aq) : Aq := passN (n + 1) n s
theorem pass_eq (s : Aq) (n : Int) : s.pass n = passP (min (max n 0) 1048576).toNat s := rfl
theorem passP_go {n : Nat} {s : Aq} (h : 0 < s.lf ∧ s.lf ≤ n) : passP n s = passP (n - s.lf) s.expire := by
  unfold passP
  rw [passN, if_pos h]
  exact passN_eq _ _ _ _ (by omega) (by omega)
theorem passP_less {n : Nat} {s : Aq} (h : 0 < s.lf) (h' : n < s.lf) : passP n s = s.setLf (s.lf - n) := by
  unfold passP
  rw [passN, if_neg (by omega), if_pos h]
theorem passP_off {n : Nat} {s : Aq} (h : s.lf = 0) : passP n s = s := by
  unfold passP
  rw [passN, if_neg (by omega), if_neg (by omega)]
/-- what an expiry adds -/
structure Late (s s' : Aq) : Prop where
  tr : s'.tr = s.tr
  lf : s'.lf = s.lf
  is : s'.is = s.is
  lo : s'.lo = s.lo
  os : s'.os.length ≤ s.os.length + 1
theorem Late.put (s : Aq) (t : Nat) (k ns nr : Int) (p : Bool) (x : List UInt8) : Late s (s.put t k ns nr p x) := ⟨rfl, rfl, rfl, rfl, by simp [Aq.put]⟩
theorem Late.same (s : Aq) : Late s s := ⟨rfl, rfl, rfl, rfl, by omega⟩
theorem late_late (s : Aq) : Late s s.late := by
  unfold late
  split
  · exact Late.put ..
  · split
    · exact Late.put ..
    · split
      · unfold ask
        split
        · exact Late.same s
        · exact Late.put ..
      · exact Late.same s
/-- room while steps pass -/
structure Fits (s : Aq) : Prop where
  tr : s.tr ≤ 100
  go : s.lf = 0 ∨ (s.os.length + (101 - s.tr) ≤ 1000000 ∧ s.is.length ≤ 1000000 ∧ s.lo ≤ 1000000000000)
theorem Fits.expire {s : Aq} (ok : s.Ok) (h : s.Fits) (hl : 0 < s.lf) : s.expire.Fits := by
  have h2 := ok.n2b
  unfold Aq.expire
  split
  · exact ⟨Nat.zero_le _, .inl rfl⟩
  · next hn =>
    have L := late_late (s.setTr (s.tr + 1)).start
    obtain ⟨h3, h4⟩ := h
    rcases h4 with h4 | ⟨h5, h6, h7⟩
    · omega
    · have e1 := L.tr
      have e2 := L.is
      have e3 := L.lo
      have e4 := L.os
      simp only [Aq.setTr, Aq.start] at e1 e2 e3 e4 ⊢
      refine ⟨by rw [e1]; omega, .inr ⟨?_, ?_, ?_⟩⟩
      · rw [e1]; omega
      · rw [e2]; exact h6
      · rw [e3]; exact h7
end Aq
theorem aqLimit_calls (n a c : Int) (w : World) (ha : a ≤ c) : Calls Try.prog 27 #[.int .i64 n, .int .i64 a, .int .i64 c] w fun e w' => e = .returned (.int .i64 (min (max n a) c)) ∧ w' = w := by
  go_enter Try.func27, Try.ntmps27
  go_wp2
  all_goals
    go_ret
    exact ⟨ret_int (by omega), rfl⟩
section
variable {w : World} {F : Nat → Prop} {b : Nat} {s : Aq}
set_option maxRecDepth 20000 in
set_option maxHeartbeats 2000000 in
theorem aqPass_calls (h : AqP w F b s) (hfit : s.Fits) (n : Int) :
    Calls Try.prog 13 #[.pointer (some ⟨b, 0, none⟩), .int .i64 n] w fun r w' => r = .returned (.tuple #[]) ∧ AqTurn F b (s.pass n) w w' := by
  have LM := fun v => aqLimit_calls n 0 1048576 v (by decide)
  obtain ⟨N, hN⟩ : ∃ N : Nat, min (max n 0) 1048576 = (N : Int) := ⟨(min (max n 0) 1048576).toNat, by omega⟩
  have hN9 : N ≤ 1048576 := by omega
  rw [hN] at LM
  have H0 : Aside (∃ s' : Aq, AqTurn F b s' w w ∧ s'.Fits ∧ Aq.passP N s' = s.pass n) := ⟨s, AqTurn.refl h, hfit, by rw [Aq.pass_eq, hN, Int.toNat_natCast]⟩
  clear hN h hfit
  generalize s.pass n = T at *
  go_enter Try.func13, Try.ntmps13
  go_wp2_with fail
  refine (LM _).mono ?_
  rintro e w1 ⟨rfl, rfl⟩
  go_wp2_with fail
  go_loopg [1] (N + 1) (fun kx s1 wr => ∃ m : Nat, s1 = .int .i64 (m : Int) ∧ m + 1 = kx ∧ m ≤ 1048576 ∧ Aside (∃ s' : Aq, AqTurn F b s' w1 wr ∧ s'.Fits ∧ Aq.passP m s' = T))
  case atStart => exact ⟨N, rfl, rfl, hN9, H0.out⟩
  case round =>
    clear H0 LM
    obtain ⟨m, rfl, rfl, hm, HO⟩ := hrel
    obtain ⟨s', T1, hfit, hT⟩ := HO.out
    clear HO
    have c17 := T1.1.c17
    have z17 := T1.1.z 17
    have hlb := T1.ok.lfb
    by_cases hl : 0 < s'.lf
    · by_cases hm2 : s'.lf ≤ m
      · have g1 : decide ((0 : Int) < (s'.lf : Int)) = true := decide_eq_true (by omega)
        have g2 : decide ((s'.lf : Int) ≤ (m : Int)) = true := decide_eq_true (by omega)
        have g3 : (0 : Int) < (s'.lf : Int) := by omega
        have g4 : (s'.lf : Int) ≤ (m : Int) := by omega
        have hfg := hfit.go
        have EX := aqExpire_calls T1.1 hfit.tr (by omega) (by omega) (by omega)
        have HF := Lib.hid (show s'.expire.Fits ∧ Aq.passP (m - s'.lf) s'.expire = T from ⟨hfit.expire T1.ok hl, (Aq.passP_go ⟨hl, hm2⟩).symm.trans hT⟩)
        have HT1 := Lib.hid T1
        obtain ⟨d, hd⟩ : ∃ d : Nat, d = m - s'.lf := ⟨_, rfl⟩
        have hd2 : (m : Int) - (s'.lf : Int) = (d : Int) := by omega
        rw [← hd] at HF
        have hd3 : d < m := by omega
        clear T1 hfit hT hfg hl hm2 hlb hd
        generalize s'.expire = s2 at *
        generalize s'.lf = l at *
        go_wp2_with fail
        refine EX.mono ?_
        rintro e w2 ⟨rfl, T2⟩
        have HT2 := Lib.hid (HT1.out.trans T2)
        clear EX T2 HT1 hd2 g1 g2 g3 g4
        go_wp2
        go_roundg (d + 1)
        case measure => omega
        case rel => exact ⟨d, by go_num, rfl, by omega, s2, HT2.out, HF.out.1, HF.out.2⟩
      · have g1 : decide ((0 : Int) < (s'.lf : Int)) = true := decide_eq_true (by omega)
        have g2 : decide ((s'.lf : Int) ≤ (m : Int)) = false := decide_eq_false (by omega)
        have hd2 : (s'.lf : Int) - (m : Int) = ((s'.lf - m : Nat) : Int) := by omega
        have T2 := T1.thenLf (n := s'.lf - m) (by omega)
        rw [← Aq.passP_less hl (by omega), hT, ← hd2] at T2
        have FI := Lib.hid T2
        have g3 : (0 : Int) < (s'.lf : Int) := by omega
        have g4 : ¬ (s'.lf : Int) ≤ (m : Int) := by omega
        have hwr : wrap64 ((s'.lf : Int) - (m : Int)) = (s'.lf : Int) - (m : Int) := by unfold wrap64; omega
        clear T1 T2 hfit hT hl hm2 hlb hd2
        generalize s'.lf = l at *
        go_wp2
        go_end0
        exact ⟨rfl, FI.out⟩
    · have hl0 : s'.lf = 0 := by omega
      rw [hl0] at c17
      have FI := Lib.hid T1
      rw [Aq.passP_off hl0] at hT
      subst hT
      clear T1 hfit hl hlb hl0
      go_wp2
      go_end0
      exact ⟨rfl, FI.out⟩
end
end Go.Proofs.Ytgkdabllaankcaa
/- Ack of a log of the program. Condition: the number is one of 64 bits. -/
namespace Go.Proofs.Ytgkdabllaankcaa
open Go.RowKit
set_option linter.unusedVariables false

theorem Pcs.drop {w : World} {F : Nat → Prop} : ∀ {vs : List Value} {l : List (List UInt8)}, Pcs w F vs l → ∀ k, Pcs w F (vs.drop k) (l.drop k)
  | [], [], _, k => by simp [Pcs]
  | _ :: _, _ :: _, h, 0 => h
  | _ :: _, _ :: _, h, k + 1 => by simpa using Pcs.drop h.2 k
  | [], _ :: _, h, _ => h.elim
  | _ :: _, [], h, _ => h.elim
/-- a cut from k on -/
theorem MidV.cut {e : TypeId} {w : World} {g off c : Nat} {vs : List Value} (h : MidV e w (some ⟨g, off, none⟩) c vs) {k : Nat} (hk : k ≤ vs.length) (B : Option Addr) (hB : (c = k ∧ B = some ⟨g, off, none⟩) ∨ B = some ⟨g, off + k, none⟩) : MidV e w B (c - k) (vs.drop k) := by
  have h1 := h.1
  refine ⟨by rw [List.length_drop]; omega, by have := h.2.1; omega, ?_⟩
  rcases h.2.2 with ⟨h0, _⟩ | ⟨g', off', cur, e', hg, hs, hc⟩
  · cases h0
  injection e' with e'
  injection e' with e1 e2 e3
  subst e1 e2
  rcases hB with ⟨rfl, rfl⟩ | rfl
  · exact .inr ⟨g, off, cur, rfl, hg, by omega, fun j u hu => by rw [List.drop_eq_nil_of_le (by omega)] at hu; simp at hu⟩
  · refine .inr ⟨g, off + k, cur, rfl, hg, by omega, fun j u hu => ?_⟩
    rw [List.getElem?_drop] at hu
    rw [Nat.add_assoc]
    exact hc (k + j) u hu
theorem zeroSlice (w : World) : (zeroValue 39).run Try.prog w = .ok (.slice none 0 0) w := by
  have hi : (Try.prog.info? 39).map (fun i => i.zero) = some (some (.slice none 0 0)) := by kernel_rfl
  cases hq : Try.prog.info? 39 with
  | none => rw [hq] at hi; cases hi
  | some i =>
    rw [hq] at hi
    have hi : i.zero = some (.slice none 0 0) := by simpa using hi
    simp [zeroValue, typeInfo, hq, hi]
/-- the first d elements are cleared and cut off -/
theorem MidV.wiped {w : World} {g off c : Nat} {vs : List Value} (h : MidV 39 w (some ⟨g, off, none⟩) c vs) {d : Nat} (hd : d ≤ vs.length) :
    ∃ w', (∀ ty, (Builtin.clear_ #[31] ty #[.slice (some ⟨g, off, none⟩) d c]).run Try.prog w = .ok (.tuple #[]) w') ∧ Only (fun k => k = g) w w' ∧ ∀ B, (c = d ∧ B = some ⟨g, off, none⟩) ∨ B = some ⟨g, off + d, none⟩ → MidV 39 w' B (c - d) (vs.drop d) := by
  have h1 := h.1
  obtain ⟨cur, hg, hs⟩ : ∃ cur, w.heap[g]? = some (.cells cur 39 (0, 0)) ∧ off + c ≤ cur.size := by
    rcases h.2.2 with ⟨h0, _⟩ | ⟨g', off', cur, e', hg, hs, hc⟩
    · cases h0
    injection e' with e'
    injection e' with e1 e2 e3
    subst e1 e2
    exact ⟨cur, hg, hs⟩
  rcases Nat.eq_zero_or_pos d with rfl | hp
  · refine ⟨w, fun ty => by simp [Builtin.clear_, run_underlying Try.underlying31], Only.refl _ _, fun B hB => h.cut (Nat.zero_le _) B hB⟩
  · refine ⟨w.setCells g off (List.replicate d (.slice none 0 0)), fun ty => Lib.run_clear_slice w 31 39 ty (.slice none 0 0) Try.underlying31 zeroSlice rfl rfl g off d c hp (fun j hj => some_of_row hg (by omega)) (fun j hj => frozen_of_row w g _ _ _ hg), Only.setCells w g _ _, fun B hB => ?_⟩
    have hc := h.cut hd B hB
    obtain ⟨cur', hg', hs'⟩ := setCells_block g 39 (List.replicate d (.slice none 0 0)) off w cur hg
    refine ⟨hc.1, hc.2.1, ?_⟩
    rcases hB with ⟨rfl, rfl⟩ | rfl
    · exact .inr ⟨g, off, cur', rfl, hg', by omega, fun j u hu => by rw [List.drop_eq_nil_of_le (by omega)] at hu; simp at hu⟩
    · refine .inr ⟨g, off + d, cur', rfl, hg', by omega, fun j u hu => ?_⟩
      rw [World.cell?_setCells_out g _ _ w _ (fun _ _ => .inr (by simp))]
      rcases hc.2.2 with ⟨h0, _⟩ | ⟨g', off', cur2, e', _, _, hcl⟩
      · cases h0
      injection e' with e'
      injection e' with e1 e2 e3
      subst e1 e2
      exact hcl j u hu
/-- what Ack returns, and what it leaves -/
def AlAcked (F : Nat → Prop) (b : Nat) (R : Rl) (s : Lg) (k : Int) (w : World) (e : Ending) (w' : World) : Prop :=
  e = .returned (.tuple #[.int .i64 (s.ackN k : Int), .bool (s.hit k)]) ∧ AlP w' F b R (s.ack k) ∧ Only F w w'
section
variable {w : World} {F : Nat → Prop} {b : Nat} {R : Rl} {s : Lg}
theorem alAck_mem (h : AlP w F b R s) {j : Nat} (hj : j < s.m) (hd : s.ds j ≤ s.n) :
    ∃ A c, w.cell? ⟨b, 11, none⟩ = some (.slice A s.l.length c) ∧ s.l.length ≤ c ∧ c ≤ maxLen ∧ ((A = none ∧ s.l.length = 0 ∧ c = 0 ∧ s.ds j = 0 ∧ ∀ q, AlP (((w.drewN q).setCell ⟨b, 9, none⟩ (.int .i64 (j : Int))).setCell ⟨b, 11, none⟩ (.slice none 0 0)) F b R (s.ack j) ∧ Only F w (((w.drewN q).setCell ⟨b, 9, none⟩ (.int .i64 (j : Int))).setCell ⟨b, 11, none⟩ (.slice none 0 0))) ∨
      ∃ g off, A = some ⟨g, off, none⟩ ∧ ∀ q, ∃ w2, (∀ ty, (Builtin.clear_ #[31] ty #[.slice (some ⟨g, off, none⟩) (s.ds j) c]).run Try.prog ((w.drewN q).setCell ⟨b, 9, none⟩ (.int .i64 (j : Int))) = .ok (.tuple #[]) w2) ∧ w2.cell? ⟨b, 11, none⟩ = some (.slice A s.l.length c) ∧ w2.frozen? ⟨b, 11, none⟩ = false ∧
        ∀ B, (c = s.ds j ∧ B = some ⟨g, off, none⟩) ∨ B = some ⟨g, off + s.ds j, none⟩ → AlP (w2.setCell ⟨b, 11, none⟩ (.slice B (s.l.length - s.ds j) (c - s.ds j))) F b R (s.ack j) ∧ Only F w (w2.setCell ⟨b, 11, none⟩ (.slice B (s.l.length - s.ds j) (c - s.ds j)))) := by
  have okA := h.2.ack j
  have eA : s.ack j = ⟨s.m, s.W, s.Q, j, s.n - s.ds j, s.l.drop (s.ds j)⟩ := by
    have h1 : s.hit (j : Int) = true := by rw [Lg.hit_nat hj]; exact decide_eq_true hd
    unfold Lg.ack
    rw [if_pos h1, Int.toNat_natCast]
  have eX : (s.ack j).nx = s.nx := by rw [eA]; exact Lg.ack_nx h.2 hj hd
  have hsf := fun q => (h.1.drewN q).setF j
  obtain ⟨⟨A, c, vs, h1, h2, h3, h4, h5, h6⟩, ok⟩ := h
  have hvl := h3.len
  have hlc := h2.1
  have hnl := ok.nl
  have fin : ∀ {v : World}, AlRaw v F b R s.m s.W s.Q j s.nx (s.l.drop (s.ds j)) → AlP v F b R (s.ack j) := fun hr => ⟨by rw [eX, eA]; exact hr, okA⟩
  refine ⟨A, c, (alcell h1).2.2.2.2.2, by omega, h2.2.1, ?_⟩
  have on0 := fun q => only_set (w.drewN q) ⟨b, 9, none⟩ (.int .i64 (j : Int))
  have hb1 := fun q => heap_setCell_same (w.drewN q) b 9 _ _ (.int .i64 (j : Int)) h1
  have m1 := fun q => (h2.drewN q).only (on0 q) (fun k hk e => alrow_apart h1 h2 (by rw [hk, e]))
  have p1 : ∀ q, Pcs ((w.drewN q).setCell ⟨b, 9, none⟩ (.int .i64 (j : Int))) F vs s.l := fun q => Pcs.only (on0 q) (alpcs_apart h1) (fun _ h => h) (Pcs.only (w := w) (w' := w.drewN q) (G := fun _ => False) ⟨rfl, rfl, rfl, Nat.le_refl _, fun _ _ _ => rfl⟩ (fun _ _ _ h => h) (fun _ h => h) h3)
  have lt1 : ∀ q k, F k → k < ((w.drewN q).setCell ⟨b, 9, none⟩ (.int .i64 (j : Int))).heap.size := fun q k hk => Nat.lt_of_lt_of_le (h6 k hk) (on0 q).size
  have onF : ∀ q, Only F w ((w.drewN q).setCell ⟨b, 9, none⟩ (.int .i64 (j : Int))) := fun q => only_from_drewN ((on0 q).mono (fun k _ e => by rw [e]; exact h4))
  rcases h2.2.2 with ⟨rfl, h0⟩ | ⟨g, off, cur, rfl, hg, _⟩
  · have hl : s.l.length = 0 := by omega
    have hd0 : s.ds j = 0 := by omega
    have hln : s.l = [] := List.eq_nil_of_length_eq_zero hl
    refine .inl ⟨rfl, hl, h0, hd0, fun q => ?_⟩
    obtain ⟨z, raw, on⟩ := alraw_setL (F := F) (l' := []) (vs' := []) (A' := none) (c' := 0) (hb1 q) h4 (lt1 q) (MidV.nil _ _) (fun k hk => by simp [blk] at hk) trivial
    refine ⟨fin ?_, (onF q).trans on (fun _ _ h => h)⟩
    rw [hln, List.drop_nil]
    exact raw
  · refine .inr ⟨g, off, rfl, fun q => ?_⟩
    obtain ⟨w2, r2, on2, mk⟩ := (m1 q).wiped (d := s.ds j) (by omega)
    have hgb : ¬ b = g := fun e => alrow_apart h1 h2 (by rw [e]; rfl)
    have hb2 := (on2.block b (lt1 q b h4) hgb).trans (hb1 q)
    refine ⟨w2, r2, (alcell hb2).2.2.2.2.2, frozen_of_row w2 b 11 _ _ hb2, fun B hB => ?_⟩
    have hP : Pcs w2 F vs s.l := Pcs.only on2 (fun k hk ht e => pcs_off_row (m1 q) k hk ht (by rw [e]; rfl)) (fun _ h => h) (p1 q)
    obtain ⟨z, raw, on⟩ := alraw_setL (F := F) (l' := s.l.drop (s.ds j)) hb2 h4 (fun k hk => Nat.lt_of_lt_of_le (lt1 q k hk) on2.size) (mk B hB) (fun k hk => by
      rcases hB with ⟨_, rfl⟩ | rfl
      · exact h5 k hk
      · exact h5 k hk) (hP.drop _)
    rw [List.length_drop] at raw on
    exact ⟨fin raw, ((onF q).trans on2 (fun k _ e => by rw [e]; exact h5 g rfl)).trans on (fun _ _ h => h)⟩
set_option maxRecDepth 20000 in
set_option maxHeartbeats 400000 in
theorem alAck_calls (h : AlP w F b R s) (k : Int) (hk : I64 k) : Calls Try.prog 82 #[.pointer (some ⟨b, 6, none⟩), .int .i64 k] w (AlAcked F b R s k w) := by
  have ok := h.2
  have SN := fun q : Nat => alSent_calls (h.drewN q)
  have BF := alBefore_calls h k hk
  cases hs : s.hit k
  · have FI := Lib.hid (show ∀ q, AlAcked F b R s k w (.returned (.tuple #[.int .i64 0, .bool false])) (w.drewN q) from fun q => by
      have ex : s.ackN k = 0 := by unfold Lg.ackN; rw [hs]; rfl
      have ea : s.ack k = s := by unfold Lg.ack; rw [hs]; rfl
      unfold AlAcked
      rw [ex, hs, ea]
      exact ⟨rfl, h.drewN q, only_drewN (Only.refl _ _) q⟩)
    cases hn : s.isN k
    · rw [hn, if_neg (by simp)] at BF
      clear h ok SN hs hn hk
      go_enter Try.func82, Try.ntmps82
      go_wp2_with fail
      refine BF.mono ?_
      rintro e w' ⟨rfl, q, rfl⟩
      go_wp2
      go_ret2
      exact FI.out q
    · rw [hn, if_pos rfl] at BF
      have g1 : (s.n : Int) < (s.ds k.toNat : Int) := by unfold Lg.hit at hs; rw [hn] at hs; simp at hs; omega
      clear h ok hs hn hk
      generalize s.ds k.toNat = d at *
      generalize s.n = n at *
      go_enter Try.func82, Try.ntmps82
      go_wp2_with fail
      refine BF.mono ?_
      rintro e w' ⟨rfl, q, rfl⟩
      go_wp2_with fail
      refine (SN q).mono ?_
      rintro e w' ⟨rfl, q', rfl⟩
      have FK := Lib.hid (FI.out (q + q'))
      clear FI SN BF
      go_wp2
      go_ret2
      exact FK.out
  · obtain ⟨j, rfl, hj, hd⟩ := Lg.hit_true hs
    have hn : s.isN (j : Int) = true := by unfold Lg.isN; simp; omega
    rw [hn, if_pos rfl, Int.toNat_natCast] at BF
    have g1 : ¬ (s.n : Int) < (s.ds j : Int) := by omega
    have hnl := ok.nl
    obtain ⟨A, c, c5, hlc, hcm, hcase⟩ := alAck_mem h hj hd
    have eN : s.ackN (j : Int) = s.ds j := by unfold Lg.ackN; rw [hs, Int.toNat_natCast]; rfl
    have AK := Lib.hid (show ∀ v, (AlP v F b R (s.ack j) ∧ Only F w v) → AlAcked F b R s j w (.returned (.tuple #[.int .i64 (s.ds j : Int), .bool true])) v from fun v hv => by
      unfold AlAcked
      rw [eN, hs]
      exact ⟨rfl, hv.1, hv.2⟩)
    obtain ⟨⟨A0, c0', vs, hb, _⟩, _⟩ := h
    obtain ⟨c0, c1, c2, c3, c4, c5'⟩ := alcell hb
    have y3 := frozen_of_row w b 9 _ _ hb
    have y5 := frozen_of_row w b 11 _ _ hb
    have g3 : (0 : Int) ≤ (s.ds j : Int) := by omega
    have g4 : (s.ds j : Int) ≤ (c : Int) := by omega
    have g5 : (s.ds j : Int) ≤ (s.l.length : Int) := by omega
    clear hb c0 c1 c2 c4 c5' hd hs hn eN hk hj
    rcases hcase with ⟨rfl, hl0, rfl, hd0, FZ⟩ | ⟨g, off, rfl, FZ⟩
    · have FZ' := Lib.hid FZ
      rw [hd0] at BF AK g1
      rw [hl0] at c5
      clear FZ ok g3 g4 g5 hd0 hl0 hlc hcm hnl
      have hcl : ∀ (v : World) (ty : TypeId), (Builtin.clear_ #[31] ty #[.slice none 0 0]).run Try.prog v = .ok (.tuple #[]) v := fun v ty => by simp [Builtin.clear_, run_underlying Try.underlying31]
      generalize s.n = n at *
      generalize s.f = f at *
      go_enter Try.func82, Try.ntmps82
      go_wp2_with fail
      refine BF.mono ?_
      rintro e w' ⟨rfl, q, rfl⟩
      go_wp2_with fail
      refine (SN q).mono ?_
      rintro e w' ⟨rfl, q', rfl⟩
      have FK := Lib.hid (AK.out _ (FZ'.out (q + q')))
      clear FZ' SN BF AK
      go_wp2_with (at_builtin; refine wpList_clear_run _ rfl _ _ rfl _ rfl _ _ (hcl _ _) ?_)
      go_ret2
      exact FK.out
    · have FZ' := Lib.hid FZ
      clear FZ ok hlc hnl
      unfold maxLen at hcm
      have hc63 : c ≤ 9223372036854775807 := by omega
      clear hcm
      generalize s.n = n at *
      generalize s.f = f at *
      generalize s.ds j = d at *
      generalize s.l.length = m at *
      go_enter Try.func82, Try.ntmps82
      go_wp2_with fail
      refine BF.mono ?_
      rintro e w' ⟨rfl, q, rfl⟩
      go_wp2_with fail
      refine (SN q).mono ?_
      rintro e w' ⟨rfl, q', rfl⟩
      obtain ⟨w2, r2, k5, z5, FB⟩ := FZ'.out (q + q')
      have FK := Lib.hid (show ∀ B cc, (c = d ∧ B = some ⟨g, off, none⟩ ∧ cc = 0) ∨ (B = some ⟨g, off + d, none⟩ ∧ cc = c - d) → AlAcked F b R s j w (.returned (.tuple #[.int .i64 (d : Int), .bool true])) (w2.setCell ⟨b, 11, none⟩ (.slice B (m - d) cc)) from fun B cc hB => by
        rcases hB with ⟨h1, h2, h3⟩ | ⟨h2, h3⟩
        · have := AK.out _ (FB B (.inl ⟨h1, h2⟩))
          rw [show c - d = cc by omega] at this
          exact this
        · rw [h3]
          exact AK.out _ (FB B (.inr h2)))
      clear FZ' SN BF AK FB
      go_wp2_with (at_builtin; refine wpList_clear_run _ rfl _ _ rfl _ rfl _ _ (r2 _) ?_)
      all_goals
        go_ret2
        exact FK.out _ _ (by first | exact .inl ⟨by assumption, rfl, rfl⟩ | exact .inr ⟨rfl, rfl⟩)
end
end Go.Proofs.Ytgkdabllaankcaa
/- ahead, agree, acknowledge of an end of a session. Condition: room for the outputs and indications. -/
namespace Go.Proofs.Ytgkdabllaankcaa
open Go.RowKit
set_option linter.unusedVariables false

section
variable {w : World} {F : Nat → Prop} {b : Nat} {s : Aq}
theorem ahead_int {t g : Nat} (ht : t < 65536) (hg : g < 65536) : ((t : Int) - (g : Int)) % 65536 = (((t + 65536 - g) % 65536 : Nat) : Int) := by
  rw [Int.natCast_emod]
  omega
set_option maxHeartbeats 1000000 in
theorem aqAhead_calls (h : AqP w F b s) {t : Nat} (ht : t < 65536) : Calls Try.prog 61 #[.pointer (some ⟨b, 0, none⟩), .int .i64 (t : Int)] w fun r w' => r = .returned (.bool (s.ahead t)) ∧ w' = w := by
  have c5 := h.c5
  have DC : ∀ v, Calls Try.prog 66 #[.int .i64 (s.tg : Int), .int .i64 (t : Int), .int .i64 65536] v fun e w' => e = .returned (.int .i64 (((t + 65536 - s.tg) % 65536 : Nat) : Int)) ∧ w' = v := fun v => by
    have hg := h.2.tgb
    refine (serDist_calls s.tg t 65536 v (by unfold I64; omega) (by unfold I64; omega) (by unfold I64; omega)).mono ?_
    rintro e w' ⟨rfl, rfl⟩
    unfold sdst
    rw [slim_mid (by omega) (by omega), ahead_int ht hg]
    exact ⟨rfl, rfl⟩
  have ea : s.ahead t = (decide (1 ≤ (t + 65536 - s.tg) % 65536) && decide ((t + 65536 - s.tg) % 65536 ≤ 32767)) := rfl
  rw [ea]
  clear ea h
  generalize (t + 65536 - s.tg) % 65536 = d at *
  generalize s.tg = g at *
  by_cases h1 : 1 ≤ d
  · by_cases h2 : d ≤ 32767
    · have g1 : decide ((1 : Int) ≤ (d : Int)) = true := decide_eq_true (by omega)
      have g2 : decide ((d : Int) ≤ 32767) = true := decide_eq_true (by omega)
      have g3 : (1 : Int) ≤ (d : Int) := by omega
      have g4 : (d : Int) ≤ 32767 := by omega
      rw [decide_eq_true h1, decide_eq_true h2]
      go_enter Try.func61, Try.ntmps61
      go_wp2_with fail
      refine (DC _).mono ?_
      rintro e w' ⟨rfl, rfl⟩
      go_wp2
      go_ret
      exact ⟨rfl, rfl⟩
    · have g1 : decide ((1 : Int) ≤ (d : Int)) = true := decide_eq_true (by omega)
      have g2 : decide ((d : Int) ≤ 32767) = false := decide_eq_false (by omega)
      have g3 : (1 : Int) ≤ (d : Int) := by omega
      have g4 : ¬ (d : Int) ≤ 32767 := by omega
      rw [decide_eq_true h1, decide_eq_false h2]
      go_enter Try.func61, Try.ntmps61
      go_wp2_with fail
      refine (DC _).mono ?_
      rintro e w' ⟨rfl, rfl⟩
      go_wp2
      go_ret
      exact ⟨rfl, rfl⟩
  · have g1 : decide ((1 : Int) ≤ (d : Int)) = false := decide_eq_false (by omega)
    have g3 : ¬ (1 : Int) ≤ (d : Int) := by omega
    rw [decide_eq_false h1, Bool.false_and]
    go_enter Try.func61, Try.ntmps61
    go_wp2_with fail
    refine (DC _).mono ?_
    rintro e w' ⟨rfl, rfl⟩
    go_wp2
    go_ret
    exact ⟨rfl, rfl⟩
set_option maxRecDepth 20000 in
set_option maxHeartbeats 1000000 in
theorem aqAgree_calls (h : AqP w F b s) (hi : s.is.length ≤ 1000000) (hf : s.os.length + (s.lg.W - s.lg.n) ≤ 1000000) : Calls Try.prog 60 #[.pointer (some ⟨b, 0, none⟩)] w fun r w' => r = .returned (.tuple #[]) ∧ AqTurn F b s.agree w w' := by
  have c4 := h.c4
  have c17 := h.c17
  have c18 := h.c18
  have z4 := h.z 4
  have z17 := h.z 17
  have z18 := h.z 18
  obtain ⟨W1, hW⟩ : ∃ W1, ((w.setCell ⟨b, 4, none⟩ (.int .i64 2)).setCell ⟨b, 17, none⟩ (.int .i64 0)).setCell ⟨b, 18, none⟩ (.int .i64 0) = W1 := ⟨_, rfl⟩
  have T1 : AqTurn F b ((s.setSt 2).stop.setTr 0) w W1 := by
    rw [← hW]
    exact ((h.setSt (n := 2) (by omega)).thenLf (n := 0) (by omega)).thenTr 0
  obtain ⟨A, c, c21, A3, c3, V3, r3, j3, z3, T3⟩ := aqInd_mem T1.1 1 hi
  have T4 := T1.trans T3
  have PC := aqPump_calls T4.1 hf
  have HT4 := Lib.hid T4
  clear T1 T3 T4 h hi hf
  have hIL : ((s.setSt 2).stop.setTr 0).is.length = s.is.length := rfl
  rw [hIL] at c21 r3 j3 PC HT4
  generalize s.is.length = n at *
  generalize s.st = st at *
  generalize s.lf = lf at *
  generalize s.tr = tr at *
  go_enter Try.func60, Try.ntmps60
  go_wp2_with (first | (at_builtin; refine Lib.wpList_append_run _ rfl _ _ _ _ rfl _ _ rfl rfl _ _ (r3 _) ?_) | fail)
  refine PC.mono ?_
  rintro e w5 ⟨rfl, T5⟩
  have FI := Lib.hid (HT4.out.trans T5)
  clear T5 PC
  go_wp2
  go_end0
  exact ⟨rfl, FI.out⟩
/-- what Ack of the log gives -/
theorem aqLogAck_calls (h : AqP w F b s) (k : Int) (hk : I64 k) : Calls Try.prog 82 #[.pointer (some ⟨b, 6, none⟩), .int .i64 k] w fun e w' => e = .returned (.tuple #[.int .i64 (s.lg.ackN k : Int), .bool (s.lg.hit k)]) ∧ AqTurn F b (s.setLg (s.lg.ack k)) w w' := by
  obtain ⟨FL, R, L, hFL, conv⟩ := h.log
  refine (alAck_calls L k hk).mono ?_
  rintro e w' ⟨rfl, L', on⟩
  exact ⟨rfl, conv w' _ (AlTurn.of_same L' on L.lt) (h.2.setLg (h.2.lg.ack k) (Aq.ack_l _ _).2 (fun x hx => h.2.small x ((Aq.ack_l _ _).1 x hx)))⟩
set_option maxRecDepth 20000 in
set_option maxHeartbeats 1000000 in
theorem aqAck_calls (h : AqP w F b s) (hak : s.ak ≤ 1000000000000) (k : Int) (hk : I64 k) : Calls Try.prog 75 #[.pointer (some ⟨b, 0, none⟩), .int .i64 k] w fun r w' => r = .returned (.bool (s.lg.hit k)) ∧ AqTurn F b (s.acks k) w w' := by
  have AC := aqLogAck_calls h k hk
  have hn32 : s.lg.ackN k < 32768 := by
    unfold Lg.ackN
    split
    · have := Lg.ds_lt h.2.lg k.toNat; have := h.2.lg.m9; omega
    · omega
  by_cases h0 : s.lg.ackN k = 0
  · have es : s.acks k = s.setLg (s.lg.ack k) := by unfold Aq.acks; rw [if_pos h0]
    rw [es]
    rw [h0] at AC
    clear h es h0 hk hn32 hak
    generalize s.lg.hit k = q at *
    go_enter Try.func75, Try.ntmps75
    go_wp2_with fail
    refine AC.mono ?_
    rintro e w1 ⟨rfl, T⟩
    have FI := Lib.hid T
    clear T AC
    go_wp2
    go_ret
    exact ⟨rfl, FI.out⟩
  · have g0 : ((s.lg.ackN k : Int) == 0) = false := beq_eq_false_iff_ne.2 (by omega)
    have okA : (s.setLg (s.lg.ack k)).Ok := h.2.setLg (h.2.lg.ack k) (Aq.ack_l _ _).2 (fun x hx => h.2.small x ((Aq.ack_l _ _).1 x hx))
    have HM := Lib.hid (show ∀ w1, AqTurn F b (s.setLg (s.lg.ack k)) w w1 → ∃ W2, ((w1.setCell ⟨b, 23, none⟩ (.int .i64 ((s.ak : Int) + (s.lg.ackN k : Int)))).setCell ⟨b, 18, none⟩ (.int .i64 0)).setCell ⟨b, 17, none⟩ (.int .i64 0) = W2 ∧ AqTurn F b ((((s.setLg (s.lg.ack k)).setAk (s.ak + s.lg.ackN k)).setTr 0).setLf 0) w W2 ∧ w1.cell? ⟨b, 23, none⟩ = some (.int .i64 (s.ak : Int)) ∧ w1.cell? ⟨b, 18, none⟩ = some (.int .i64 (s.tr : Int)) ∧ w1.cell? ⟨b, 17, none⟩ = some (.int .i64 (s.lf : Int)) ∧ w1.frozen? ⟨b, 23, none⟩ = false ∧ w1.frozen? ⟨b, 18, none⟩ = false ∧ w1.frozen? ⟨b, 17, none⟩ = false from fun w1 T => ⟨_, rfl, by
      rw [← Int.natCast_add]
      exact ((T.thenAk _).thenTr 0).thenLf (n := 0) (by omega), T.1.c23, T.1.c18, T.1.c17, T.1.z 23, T.1.z 18, T.1.z 17⟩)
    have hE : s.acks k = (if (s.lg.ack k).out.length = 0 then (((s.setLg (s.lg.ack k)).setAk (s.ak + s.lg.ackN k)).setTr 0).setLf 0 else ((((s.setLg (s.lg.ack k)).setAk (s.ak + s.lg.ackN k)).setTr 0).setLf 0).start) := by
      unfold Aq.acks
      rw [if_neg h0]
      split <;> rfl
    have HOL : ((((s.setLg (s.lg.ack k)).setAk (s.ak + s.lg.ackN k)).setTr 0).setLf 0).lg.out = (s.lg.ack k).out := rfl
    rw [hE]
    have hE' := Lib.hid hE
    clear h hE okA hk h0
    by_cases hO : (s.lg.ack k).out.length = 0
    · rw [if_pos hO]
      generalize s.lg.hit k = q at *
      generalize s.lg.ackN k = a at *
      go_enter Try.func75, Try.ntmps75
      go_wp2_with fail
      refine AC.mono ?_
      rintro e w1 ⟨rfl, T⟩
      obtain ⟨W2, hW2, T2, c23, c18, c17, z23, z18, z17⟩ := HM.out w1 T
      have OC := aqOut_calls T2.1
      rw [HOL] at OC
      unfold AlOut at OC
      rw [hO] at OC
      have HT2 := Lib.hid T2
      clear T T2 AC HM HOL hO hE'
      go_wp2_with fail
      refine OC.mono ?_
      rintro e w3 ⟨A, c, rfl, row, be⟩
      have FI := Lib.hid (HT2.out.trans ((AqTurn.refl (HT2.out.1.below be)).after be HT2.out.1.lt))
      clear row be OC
      go_wp2
      go_ret
      exact ⟨rfl, FI.out⟩
    · rw [if_neg hO]
      have hO' : (0 : Int) < ((s.lg.ack k).out.length : Int) := by omega
      have hO2 : decide ((0 : Int) < ((s.lg.ack k).out.length : Int)) = true := decide_eq_true hO'
      generalize s.lg.hit k = q at *
      generalize s.lg.ackN k = a at *
      go_enter Try.func75, Try.ntmps75
      go_wp2_with fail
      refine AC.mono ?_
      rintro e w1 ⟨rfl, T⟩
      obtain ⟨W2, hW2, T2, c23, c18, c17, z23, z18, z17⟩ := HM.out w1 T
      have OC := aqOut_calls T2.1
      rw [HOL] at OC
      unfold AlOut at OC
      have HT2 := Lib.hid T2
      clear T T2 AC HM HOL hO hE'
      generalize (s.lg.ack k).out.length = n at *
      go_wp2_with fail
      refine OC.mono ?_
      rintro e w3 ⟨A, c, rfl, row, be⟩
      have T3 := HT2.out.trans ((AqTurn.refl (HT2.out.1.below be)).after be HT2.out.1.lt)
      have ST := aqStart_calls T3.1
      have HT3 := Lib.hid T3
      clear row be OC T3
      go_wp2_with fail
      refine ST.mono ?_
      rintro e w4 ⟨rfl, T4⟩
      have FI := Lib.hid (HT3.out.trans T4)
      clear T4 ST
      go_wp2
      go_ret
      exact ⟨rfl, FI.out⟩
end
end Go.Proofs.Ytgkdabllaankcaa
/- advance of an order of the program: as long as the expected message is kept, it becomes ready. Condition: fewer than a million messages. -/
namespace Go.Proofs.Ytgkdabllaankcaa
open Go.RowKit
set_option linter.unusedVariables false

section
variable {w w' : World} {F G : Nat → Prop} {b m W e : Nat} {R : Ro} {l : List (Int × List UInt8)} {r : List (List UInt8)} {s : Od}
/-- the expected message becomes ready: every step of it -/
theorem ao_round (h : AoRaw w F b R m W e l r) (hd : Ds l) (he : e < 32768) (hr : r.length ≤ 1000000) {x : List UInt8} (hx : lk l (e : Int) = some x) :
    ∃ B A c C d, w.cell? ⟨b, 15, none⟩ = some (.map (some B)) ∧ w.cell? ⟨b, 14, none⟩ = some (.int .i64 (e : Int)) ∧ (∀ q, (Instr.lookup 61 (.map (some B)) (.int .i64 (e : Int)) true).run Try.prog (w.drewN q) = .ok (.tuple #[.slice C x.length d, .bool true]) (w.drewN q)) ∧
      ∀ q, ∃ w1, (∀ ty, (Builtin.delete_ #[61, 3] ty #[.map (some B), .int .i64 (e : Int)]).run Try.prog (w.drewN q) = .ok (.tuple #[]) w1) ∧ w1.cell? ⟨b, 16, none⟩ = some (.slice A r.length c) ∧
        ∃ A3 c3 V3, (∀ ty, (Builtin.append_ #[31, 31] ty #[.slice A r.length c, .slice (some ⟨w1.heap.size, 0, none⟩) 1 1]).run Try.prog (w1.alloc (.cells #[.slice C x.length d] 39)) = .ok (.slice A3 (r.length + 1) c3) V3) ∧ V3.cell? ⟨b, 16, none⟩ = some (.slice A r.length c) ∧ V3.frozen? ⟨b, 16, none⟩ = false ∧
          ∃ V4, V3.setCell ⟨b, 16, none⟩ (.slice A3 (r.length + 1) c3) = V4 ∧ V4.cell? ⟨b, 12, none⟩ = some (.int .i64 (m : Int)) ∧ V4.cell? ⟨b, 14, none⟩ = some (.int .i64 (e : Int)) ∧ V4.frozen? ⟨b, 14, none⟩ = false ∧
            ∀ e' : Nat, AoRaw (V4.setCell ⟨b, 14, none⟩ (.int .i64 (e' : Int))) (more F w V4) b R m W e' (dl l (e : Int)) (r ++ [x]) ∧ Only F w (V4.setCell ⟨b, 14, none⟩ (.int .i64 (e' : Int))) := by
  obtain ⟨B, V, A, c, vs, h1, ⟨hM, hK⟩, ⟨h4, h5⟩, h6, h7, h8, h9⟩ := h
  obtain ⟨v, hv, hp⟩ := hK.lk_some hx
  obtain ⟨C, d, rfl, hmC, hFC⟩ := id hp
  obtain ⟨c0, c1, c2, c3, c4⟩ := aocell h1
  have hvl := h5.len
  refine ⟨B, A, c, C, d, c3, c2, fun q => ?_, fun q => ?_⟩
  · have := (hM.block (w' := w.drewN q) rfl).look (k := (e : Int)) (by omega) (by omega)
    rw [hv] at this
    exact this
  obtain ⟨w1, DR, hM1, on1'⟩ := (hM.block (w' := w.drewN q) rfl).drop (hK.ds hd) (k := (e : Int)) (by omega) (by omega)
  have on1 : Only (fun k => k = B) w w1 := only_from_drewN on1'
  have hbB : ¬ b = B := fun e => hM.notCells (e ▸ h1)
  have hb1 := (on1.block b (lt_of_block h1) hbB).trans h1
  have hv1 := h4.only on1 (fun k hk => cells_off_map hM k (h4.type k hk))
  obtain ⟨A3, c3', V3, r3, m3, on3, kin3⟩ := hv1.app1 etRow (.slice C x.length d) rfl (by omega)
  rw [hvl] at r3
  have hb3 := (on3.block b (lt_of_block hb1) (fun e => by
    obtain ⟨cur, t1⟩ := hv1.type b e
    exact types_apart (by decide) t1 hb1)).trans hb1
  have hs1 := on1.size
  have hs3 := on3.size
  have hlt3 : ∀ k, more F w V3 k → k < V3.heap.size := more_lt h9 (Nat.le_trans hs1 hs3)
  have p1 : Pcs w1 F vs r := Pcs.only on1 (fun k _ hk => cells_off_map hM k hk) (fun _ h => h) h5
  have p3 : Pcs V3 (more F w V3) vs r := Pcs.only on3 (pcs_off_rows hv1) (fun _ h => .inl h) p1
  have q1 : Pc w1 F (.slice C x.length d) x := hp.only on1 (fun k _ hk => cells_off_map hM k hk) (fun _ h => h)
  have q3 : Pc V3 (more F w V3) (.slice C x.length d) x := q1.only on3 (pcs_off_rows hv1) (fun _ h => .inl h)
  have k1 : Kp w1 F (dl V (e : Int)) (dl l (e : Int)) := Kp.only on1 (fun k _ hk => cells_off_map hM k hk) (fun _ h => h) hK.dl
  have k3 : Kp V3 (more F w V3) (dl V (e : Int)) (dl l (e : Int)) := Kp.only on3 (pcs_off_rows hv1) (fun _ h => .inl h) k1
  have M3 : MpR V3 B (dl V (e : Int)) := hM1.only on3 (fun e => by
    obtain ⟨cur, t1⟩ := hv1.type B e
    exact hM1.notCells t1)
  have g8 : ∀ k, blk A3 = some k → more F w V3 k := fun k hk => (kin3 k hk).elim (fun h => .inl (h8 k h)) (fun h => .inr ⟨Nat.le_trans hs1 h, m3.blk_lt k hk⟩)
  obtain ⟨f4, raw4, on4⟩ := ao_set (F := more F w V3) (m := m) (W := W) (e := e) (r := r ++ [x]) hb3 4 (.slice A3 (r.length + 1) c3') (by simp [aoc]) M3 k3 m3 (p3.app q3) (.inl h6) (.inl h7) g8 hlt3
  have hs4 : (V3.setCell ⟨b, 16, none⟩ (.slice A3 (r.length + 1) c3')).heap.size = V3.heap.size := by simp [World.setCell]
  refine ⟨w1, DR, (aocell hb1).2.2.2.2, A3, c3', V3, r3, (aocell hb3).2.2.2.2, f4, _, rfl, ?_⟩
  have t3 : Only F w V3 := (on1.mono (fun k _ e => by rw [e]; exact h7)).trans on3 (fun k _ hk => h8 k hk)
  have t4 : Only F w (V3.setCell ⟨b, 16, none⟩ (.slice A3 (r.length + 1) c3')) := t3.trans (only_set V3 ⟨b, 16, none⟩ _) (fun k _ e => by rw [e]; exact h6)
  obtain ⟨B', V', A', c', vs', i1, ⟨i2, i3⟩, ⟨i4, i5⟩, i6, i7, i8, i9⟩ := raw4
  obtain ⟨j0, j1, j2, j3, j4⟩ := aocell i1
  refine ⟨j0, j2, frozen_of_row _ b 14 _ _ i1, fun e' => ?_⟩
  obtain ⟨f5, raw5, on5⟩ := ao_set (m := m) (W := W) (e := e') i1 2 (.int .i64 (e' : Int)) (by simp [aoc]) i2 i3 i4 i5 i6 i7 i8 i9
  refine ⟨?_, t4.trans (only_set _ ⟨b, 14, none⟩ _) (fun k _ e => by rw [e]; exact h6)⟩
  unfold more
  rw [hs4]
  exact raw5
theorem aoNxt_calls (k M : Nat) (w : World) (h2 : k < M) (h3 : 1 ≤ M) (h4 : M ≤ 32768) :
    Calls Try.prog 43 #[.int .i64 (k : Int), .int .i64 (M : Int)] w fun e w' => e = .returned (.int .i64 (((k + 1) % M : Nat) : Int)) ∧ w' = w := by
  refine (serNext_calls k M w (by unfold I64; omega) (by unfold I64; omega)).mono ?_
  rintro e w' ⟨rfl, rfl⟩
  unfold snxt
  rw [slim_mid (by omega) (by omega)]
  refine ⟨ret_int ?_, rfl⟩
  rw [Int.emod_eq_of_lt (a := (k : Int)) (by omega) (by omega), Int.natCast_emod]
  rfl
/-- how it stands in the loop -/
def AL (w : World) (F : Nat → Prop) (b : Nat) (R : Ro) (s T : Od) (wr : World) (k n : Nat) : Prop :=
  ∃ s' : Od, s'.k.length = k ∧ Od.adv (k + 1) s' = T ∧ AoTurn F b R s' w wr ∧ s'.all = s.all ∧ s'.r.length = s.r.length + n
set_option maxRecDepth 20000 in
set_option maxHeartbeats 1000000 in
theorem aoAdv_calls (h : AoP w F b R s) (hall : s.all ≤ 1000000) :
    Calls Try.prog 87 #[.pointer (some ⟨b, 12, none⟩)] w fun r w' => r = .returned (.int .i64 (((Od.adv (s.k.length + 1) s).r.length : Int) - (s.r.length : Int))) ∧ AoTurn F b R (Od.adv (s.k.length + 1) s) w w' := by
  have HLT := Lib.hid h.lt
  have H0 : Aside (AL w F b R s (Od.adv (s.k.length + 1) s) w s.k.length 0) := ⟨s, rfl, rfl, AoTurn.refl h, rfl, rfl⟩
  have HALL := Lib.hid hall
  clear h hall
  generalize Od.adv (s.k.length + 1) s = T at *
  go_enter Try.func87, Try.ntmps87
  go_wp2_with fail
  go_loopg [3] (s.k.length + 1) (fun kx s3 wr => ∃ (k n : Nat), s3 = .int .i64 (n : Int) ∧ k + 1 = kx ∧ Aside (AL w F b R s T wr k n))
  case atStart => exact ⟨s.k.length, 0, rfl, rfl, H0.out⟩
  case round =>
    clear H0
    obtain ⟨k, n, rfl, rfl, HO⟩ := hrel
    obtain ⟨s', hk, hT, ht, ha, hn⟩ := HO.out
    clear HO
    have ok := ht.1.2
    have he := ok.e9
    have hm9 := ok.m9
    have hall := HALL.out
    have hrl : s'.r.length ≤ 1000000 := by unfold Od.all at ha hall; omega
    cases hx : lk s'.k (s'.e : Int) with
    | none =>
      have hTn : s' = T := by rw [← hT]; exact (Od.adv_none hx).symm
      obtain ⟨B, V, A, c, vs, h1, ⟨hM, hK⟩, _⟩ := ht.1.1
      obtain ⟨c0, c1, c2, c3, c4⟩ := aocell h1
      have LK := fun q : Nat => (hM.block (w' := wr.drewN q) rfl).look (k := (s'.e : Int)) (by omega) (by omega)
      rw [hK.lk_none hx] at LK
      simp only [Option.getD_none, Option.isSome_none] at LK
      have FI := Lib.hid (fun q => ht.drewN q)
      rw [hTn] at FI
      have HN := Lib.hid (show (T.r.length : Int) - (s.r.length : Int) = (n : Int) by rw [← hTn]; omega)
      clear h1 hM hK c0 c1 c4 hx hT ht ha hn ok he hall hrl hm9 hTn hk
      generalize s'.e = x at *
      go_wp2_with fail
      go_quiet (fail)
      go_wp2
      go_ret
      exact ⟨ret_int HN.out.symm, FI.out _⟩
    | some x =>
      have OKS := Lib.hid (ok.step hx)
      obtain ⟨B, A, c, C, d, c3, c2, LK, RD⟩ := ao_round ht.1.1 ok.ds (by omega) hrl hx
      have RD' := Lib.hid RD
      have hnb : n ≤ 1000000 := by omega
      have HS := Lib.hid (show s'.k.length = k ∧ Od.adv (k + 1) s' = T ∧ AoTurn F b R s' w wr ∧ s'.all = s.all ∧ s'.r.length = s.r.length + n ∧ s'.Ok ∧ lk s'.k (s'.e : Int) = some x from ⟨hk, hT, ht, ha, hn, ok, hx⟩)
      have NX := fun v => aoNxt_calls s'.e s'.m v he (by omega) hm9
      clear hk hT ht ha hn ok hx hall
      clear RD
      go_wp2_with fail
      go_quiet (fail)
      obtain ⟨w1, DR, k4, A3, c3', V3, r3, j4, f4, V4, hV4, i0, i2, f2, FIN⟩ := RD'.out (nq + 1)
      have FIN' := Lib.hid FIN
      have DR' : (Builtin.delete_ #[61, 3] 0 #[.map (some B), .int .i64 (s'.e : Int)]).run Try.prog (wr.drewN nq).drew = .ok (.tuple #[]) w1 := DR 0
      have r3' := r3
      have e3 : (wr.drewN nq).cell? ⟨b, 15, none⟩ = some (.map (some B)) := c3
      have e2 : (wr.drewN nq).cell? ⟨b, 14, none⟩ = some (.int .i64 (s'.e : Int)) := c2
      clear RD' FIN DR LK c3 c2
      generalize wr.drewN nq = wq at *
      go_wp2_with fail
      refine wp_region_still_tail 8 (by kernel_rfl) (by kernel_rfl) ?_
      simp only [List.take_succ_cons, List.take_zero, List.drop_succ_cons, List.drop_zero]
      repeat still_step
      refine wpStill_nil ?_
      go_wp2_with (first
        | (at_delete; refine wpList_delete_run _ rfl _ _ _ _ rfl _ _ rfl rfl _ DR' ?_)
        | (at_builtin; refine Lib.wpList_append_run _ rfl _ _ _ _ rfl _ _ rfl rfl _ _ (r3 _) ?_))
      have E3 : Aside (∀ q, AL w F b R s T ((V4.setCell ⟨b, 14, none⟩ (.int .i64 (((s'.e + 1) % s'.m : Nat) : Int))).drewN q) (k - 1) (n + 1)) := fun q => by
        obtain ⟨hk, hT, ht, ha, hn, ok, hx⟩ := HS.out
        obtain ⟨sa, sk⟩ := Od.step_all hx
        obtain ⟨raw, on⟩ := FIN'.out ((s'.e + 1) % s'.m)
        refine ⟨s'.step x, by omega, ?_, (AoTurn.trans HLT.out ht ⟨⟨?_, OKS.out⟩, on⟩).drewN q, by rw [sa, ha], ?_⟩
        · rw [← hT, Od.adv_some hx]
          congr 1
          omega
        · have e1 : (V4.setCell ⟨b, 14, none⟩ (.int .i64 (((s'.e + 1) % s'.m : Nat) : Int))).heap.size = V4.heap.size := by simp [World.setCell]
          have e2 : more (more F w wr) wr (V4.setCell ⟨b, 14, none⟩ (.int .i64 (((s'.e + 1) % s'.m : Nat) : Int))) = more (more F w wr) wr V4 := by
            funext q
            unfold more
            rw [e1]
          rw [e2]
          exact raw
        · unfold Od.step
          simp only [List.length_append, List.length_singleton]
          omega
      have hk1 : 1 ≤ k := by
        obtain ⟨hk, _, _, _, _, _, hx⟩ := HS.out
        have := Od.step_all hx
        omega
      clear HS FIN' r3 r3' OKS hV4
      generalize (s'.e + 1) % s'.m = y at *
      generalize s'.e = z at *
      generalize s'.m = M at *
      refine wp_region_still_tail 12 (by kernel_rfl) (by kernel_rfl) ?_
      simp only [List.take_succ_cons, List.take_zero, List.drop_succ_cons, List.drop_zero]
      repeat still_step
      still_call (NX _)
      repeat still_step
      refine wpStill_nil ?_
      go_wp2
      go_roundg k
      case measure => omega
      case rel => exact ⟨k - 1, n + 1, val_int (by omega), by omega, E3.out 1⟩
end
end Go.Proofs.Ytgkdabllaankcaa
/- Put of an order of the program. Condition: the number is one of 64 bits, the message reads as its octets, fewer than a million messages. -/
namespace Go.Proofs.Ytgkdabllaankcaa
open Go.RowKit
set_option linter.unusedVariables false

theorem aoDist_calls (a k M : Int) (w : World) (h1 : I64 a) (h2 : I64 k) (h3 : 1 ≤ M) (h4 : M ≤ 32768) :
    Calls Try.prog 66 #[.int .i64 a, .int .i64 k, .int .i64 M] w fun e w' => e = .returned (.int .i64 ((k - a) % M)) ∧ w' = w := by
  refine (serDist_calls a k M w h1 h2 (by unfold I64; omega)).mono ?_
  rintro e w' ⟨rfl, rfl⟩
  unfold sdst
  rw [slim_mid (by omega) (by omega)]
  exact ⟨rfl, rfl⟩
set_option maxHeartbeats 400000 in
theorem aoIn_calls (x a W M : Int) (w : World) (h1 : I64 a) (h2 : I64 x) (h3 : 1 ≤ M) (h4 : M ≤ 32768) :
    Calls Try.prog 86 #[.int .i64 x, .int .i64 a, .int .i64 W, .int .i64 M] w fun e w' => e = .returned (.bool (decide ((x - a) % M < W))) ∧ w' = w := by
  have D := fun v => aoDist_calls a x M v h1 h2 h3 h4
  generalize (x - a) % M = d at *
  go_enter Try.func86, Try.ntmps86
  go_wp2_with fail
  refine (D _).mono ?_
  rintro e w' ⟨rfl, rfl⟩
  go_wp2
  go_ret
  exact ⟨by simp, rfl⟩
section
variable {w : World} {F : Nat → Prop} {b : Nat} {R : Ro} {s : Od}
/-- a message comes into the map -/
theorem ao_add (h : AoP w F b R s) (n : Int) (x : List UInt8) (hx : x.length ≤ 1048576) (hn : s.had n = false) (hl : s.all ≤ 1000000) :
    ∃ B, w.cell? ⟨b, 15, none⟩ = some (.map (some B)) ∧ ∀ V1 A1 c1, Below w.heap.size w V1 → Own V1 w.heap.size A1 c1 x → V1.cell? ⟨b, 15, none⟩ = some (.map (some B)) ∧
      ∃ V2, (Instr.mapUpdate 61 (.map (some B)) (.int .i64 (n % (s.m : Int))) (.slice A1 x.length c1)).run Try.prog V1 = .ok () V2 ∧ AoTurn F b R (s.add n x) w V2 := by
  have okA := h.2.add hn hx
  have hnone := Od.had_none hn
  have hm8 := h.2.m8
  have hm9 := h.2.m9
  have q0 : 0 ≤ n % (s.m : Int) := Int.emod_nonneg _ (by omega)
  have q1 : n % (s.m : Int) < (s.m : Int) := Int.emod_lt_of_pos _ (by omega)
  obtain ⟨⟨B, V, A, c, vs, h1, ⟨hM, hK⟩, ⟨h4, h5⟩, h6, h7, h8, h9⟩, ok⟩ := h
  refine ⟨B, (aocell h1).2.2.2.1, fun V1 A1 c1 b1 own => ?_⟩
  have m1 := Mid.of_own own
  have k1 := fun k hk => (own.blk_ge k hk).1
  have o1 : Only (fun _ => False) w V1 := Only.of_below _ b1
  have hb1 := (b1.block b (lt_of_block h1)).trans h1
  have hM1 := hM.only o1 (fun h => h)
  have hkl : s.k.length ≤ 1000000 := by unfold Od.all at hl; omega
  obtain ⟨V2, UR, hM2, on2⟩ := hM1.store q0 (by omega) (hK.lk_none hnone) (by rw [hK.len]; unfold maxLen; omega) (.slice A1 x.length c1)
  have hs1 := b1.size
  have hs2 := on2.size
  have hbB : ¬ b = B := fun e => hM1.notCells (e ▸ hb1)
  have hb2 := (on2.block b (lt_of_block hb1) hbB).trans hb1
  have hv1 := h4.only o1 (fun _ _ h => h)
  have t2 : Only F w V2 := (o1.mono (fun _ _ h => h.elim)).trans on2 (fun k _ e => by rw [e]; exact h7)
  have p1 : Pc V1 (more F w V2) (.slice A1 x.length c1) x := ⟨A1, c1, rfl, m1, fun k hk => .inr ⟨k1 k hk, Nat.lt_of_lt_of_le (m1.blk_lt k hk) hs2⟩⟩
  have p2 : Pc V2 (more F w V2) (.slice A1 x.length c1) x := p1.only on2 (fun k _ hk => cells_off_map hM1 k hk) (fun _ h => h)
  have k2 : Kp V2 (more F w V2) V s.k := Kp.only on2 (fun k _ hk => cells_off_map hM1 k hk) (fun _ h => .inl h) (Kp.only o1 (fun _ _ _ h => h) (fun _ h => h) hK)
  refine ⟨(aocell hb1).2.2.2.1, V2, UR, ⟨⟨B, _, A, c, vs, hb2, ⟨hM2, k2.app p2⟩, ⟨hv1.only on2 (fun k hk => cells_off_map hM1 k (hv1.type k hk)), Pcs.only on2 (fun k _ hk => cells_off_map hM1 k hk) (fun _ h => .inl h) (Pcs.only o1 (fun _ _ _ h => h) (fun _ h => h) h5)⟩, .inl h6, .inl h7, fun k hk => .inl (h8 k hk), more_lt h9 (Nat.le_trans hs1 hs2)⟩, okA⟩, t2⟩
set_option maxRecDepth 20000 in
set_option maxHeartbeats 1000000 in
theorem aoPut_calls (h : AoP w F b R s) (hall : s.all ≤ 999999) (n : Int) (hn : I64 n) (X : Option Addr) (c9 : Nat) (x : List UInt8) (hr : Rd w X x) (hx : x.length ≤ 1048576) :
    Calls Try.prog 83 #[.pointer (some ⟨b, 12, none⟩), .int .i64 n, .slice X x.length c9] w fun r w' => r = .returned (.int .i64 (s.putN n x)) ∧ AoTurn F b R (s.put n x) w w' := by
  have ok := h.2
  have hm8 := ok.m8
  have hm9 := ok.m9
  have he9 := ok.e9
  have IN := fun v => aoIn_calls n (s.e : Int) (s.W : Int) (s.m : Int) v (by unfold I64; omega) hn (by omega) (by omega)
  have DI := fun v => aoDist_calls 0 n (s.m : Int) v (by unfold I64; omega) hn (by omega) (by omega)
  rw [Int.sub_zero] at DI
  cases hf : s.far n
  · have hin : decide ((n - (s.e : Int)) % (s.m : Int) < (s.W : Int)) = true := by unfold Od.far at hf; simp at hf ⊢; omega
    rw [hin] at IN
    cases hh : s.had n
    · obtain ⟨e1, e2⟩ := Od.put_new (x := x) hf hh
      rw [e1, e2]
      have HH := Lib.hid (fun q : Nat => ao_add (h.drewN q) n x hx hh (by omega))
      have CL := fun q : Nat => cloneOwn_calls X c9 x (w.drewN q) (hr.drewN q) hx
      have HLT := Lib.hid h.lt
      have hall1 : (s.add n x).all ≤ 1000000 := by unfold Od.add Od.all; unfold Od.all at hall; simp only [List.length_append, List.length_singleton]; omega
      have hrr : (s.add n x).r.length = s.r.length := rfl
      obtain ⟨T, hT⟩ : ∃ T, T = Od.adv ((s.add n x).k.length + 1) (s.add n x) := ⟨_, rfl⟩
      have ADV := Lib.hid (fun V2 (tn : AoTurn F b R (s.add n x) w V2) => aoAdv_calls tn.1 hall1)
      rw [← hT, hrr] at ADV
      rw [← hT]
      have q0 : 0 ≤ n % (s.m : Int) := Int.emod_nonneg _ (by omega)
      have q1 : n % (s.m : Int) < (s.m : Int) := Int.emod_lt_of_pos _ (by omega)
      have hnone := Od.had_none hh
      obtain ⟨⟨B, V, A, c, vs, h1, ⟨hM, hK⟩, _⟩, _⟩ := h
      obtain ⟨c0, c1, c2, c3, c4⟩ := aocell h1
      have LK := fun q : Nat => (hM.block (w' := w.drewN q) rfl).look (k := n % (s.m : Int)) q0 (by omega)
      rw [hK.lk_none hnone] at LK
      simp only [Option.getD_none, Option.isSome_none] at LK
      clear h1 hM hK hnone hh hf hin ok hn c4 e1 e2 hr hx hall q0 q1 hm8 hm9 he9 hT hrr hall1
      generalize s.r.length = rl at *
      generalize s.add n x = s1 at *
      generalize n % (s.m : Int) = z at *
      generalize s.m = M at *
      generalize s.W = W at *
      generalize s.e = e at *
      go_enter Try.func83, Try.ntmps83
      go_wp2_with fail
      go_quiet (first | (go_at_call 86; exact Calls.quiet_of_same (IN _)))
      go_wp2_with fail
      refine (DI _).mono ?_
      rintro e w' ⟨rfl, rfl⟩
      obtain ⟨B', k3, AM⟩ := HH.out (nq + 1)
      obtain rfl : B' = B := by
        have k5 : w.cell? ⟨b, 15, none⟩ = some (.map (some B')) := k3
        rw [c3] at k5
        injection k5 with k5
        injection k5 with k5
        injection k5 with k5
        exact k5.symm
      have AM' := Lib.hid AM
      have L1 := LK nq
      have CC : Calls Try.prog 45 #[.slice X x.length c9] (w.drewN nq).drew (GivesOwn x (w.drewN nq).drew) := CL (nq + 1)
      have d3 : (w.drewN nq).drew.cell? ⟨b, 15, none⟩ = some (.map (some B')) := k3
      clear HH CL AM LK k3
      go_wp2_with (at_lookup; refine wpList_lookup_run _ rfl _ _ _ rfl _ _ rfl rfl _ L1 ?_)
      go_region_law (go_simp; go_at_call 45; refine CC.mono ?_; rintro e9 V1 ⟨A1, c1', rfl, own, bel⟩; obtain ⟨j3, V2, UR, TT⟩ := AM'.out V1 A1 c1' bel own; have FT := Lib.hid TT.from_drewN; clear TT)
      all_goals
        have AV := ADV.out V2 FT.out
        clear UR AM' own bel ADV c0 c1 c2 c3 d3 j3 IN DI L1 CC
        go_wp2_with fail
        refine AV.mono ?_
        rintro e' w' ⟨rfl, tt⟩
        have FI := Lib.hid (AoTurn.trans HLT.out FT.out tt)
        clear AV tt FT HLT
        go_wp2
        go_ret
        exact ⟨rfl, FI.out⟩
    · obtain ⟨e1, e2⟩ := Od.put_had (x := x) hf hh
      rw [e1, e2]
      have FI := Lib.hid (fun q => (AoTurn.refl h).drewN q)
      obtain ⟨y, hy⟩ := Od.had_some hh
      obtain ⟨⟨B, V, A, c, vs, h1, ⟨hM, hK⟩, _⟩, _⟩ := h
      obtain ⟨c0, c1, c2, c3, c4⟩ := aocell h1
      obtain ⟨v, hv, hp⟩ := hK.lk_some hy
      obtain ⟨C, d, rfl, _⟩ := hp
      have q0 : 0 ≤ n % (s.m : Int) := Int.emod_nonneg _ (by omega)
      have q1 : n % (s.m : Int) < (s.m : Int) := Int.emod_lt_of_pos _ (by omega)
      have LK := fun q : Nat => (hM.block (w' := w.drewN q) rfl).look (k := n % (s.m : Int)) q0 (by omega)
      rw [hv] at LK
      simp only [Option.getD_some, Option.isSome_some] at LK
      clear h1 hM hK hv hy hh hf hin ok hn c4 e1 e2 hr hx hall q0 q1 hm8 hm9 he9
      generalize n % (s.m : Int) = z at *
      generalize s.m = M at *
      generalize s.W = W at *
      generalize s.e = e at *
      go_enter Try.func83, Try.ntmps83
      go_wp2_with fail
      go_quiet (first | (go_at_call 86; exact Calls.quiet_of_same (IN _)))
      go_wp2_with fail
      refine (DI _).mono ?_
      rintro e w' ⟨rfl, rfl⟩
      go_wp2_with (at_lookup; refine wpList_lookup_run _ rfl _ _ _ rfl _ _ rfl rfl _ (LK _) ?_)
      go_ret
      exact ⟨rfl, FI.out _⟩
  · obtain ⟨e1, e2⟩ := Od.put_far (x := x) hf
    rw [e1, e2]
    have hin : decide ((n - (s.e : Int)) % (s.m : Int) < (s.W : Int)) = false := by unfold Od.far at hf; simp at hf ⊢; omega
    rw [hin] at IN
    have FI := Lib.hid (fun q => (AoTurn.refl h).drewN q)
    obtain ⟨⟨B, V, A, c, vs, h1, _⟩, _⟩ := h
    obtain ⟨c0, c1, c2, c3, c4⟩ := aocell h1
    clear h1 hf hin ok hn c4 c3 e1 e2 hr hx hall hm8 hm9 he9 DI
    generalize s.m = M at *
    generalize s.W = W at *
    generalize s.e = e at *
    go_enter Try.func83, Try.ntmps83
    go_wp2_with fail
    go_quiet (first | (go_at_call 86; exact Calls.quiet_of_same (IN _)))
    go_wp2
    go_ret
    exact ⟨rfl, FI.out _⟩
end
end Go.Proofs.Ytgkdabllaankcaa

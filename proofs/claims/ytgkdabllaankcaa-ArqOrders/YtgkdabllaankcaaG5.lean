/- Package arq walked, part 5 of 15 (merged texts: AqInd, AqSmall, AqSend, AlNext, NumOwn, AlOut, AqPump, AqRetr). No condition. -/
import Derived.Test.YtgkdabllaankcaaG4
import Derived.Deep.RegionLaw
import Derived.StillTailTactics
import Derived.BigQuiet
import Derived.Test.YtgkdabllaankcaaG3
import Derived.Test.YtgkdabllaankcaaG2
import Derived.Deep.LoopGhost
/- An indication comes to an end of a session. Condition: fewer than a million of them. -/
namespace Go.Proofs.Ytgkdabllaankcaa
open Go.RowKit
set_option linter.unusedVariables false

section
variable {w : World} {F : Nat → Prop} {b : Nat} {s : Aq}
theorem aqInd_mem (h : AqP w F b s) (i : Nat) (hf : s.is.length ≤ 1000000) :
    ∃ A c, w.cell? ⟨b, 21, none⟩ = some (.slice A s.is.length c) ∧ ∃ A3 c3 V3, (∀ ty, (Builtin.append_ #[22, 22] ty #[.slice A s.is.length c, .slice (some ⟨w.heap.size, 0, none⟩) 1 1]).run Try.prog (w.alloc (.cells #[.int .i64 (i : Int)] 3)) = .ok (.slice A3 (s.is.length + 1) c3) V3) ∧
          V3.cell? ⟨b, 21, none⟩ = some (.slice A s.is.length c) ∧ V3.frozen? ⟨b, 21, none⟩ = false ∧ AqTurn F b (s.ind i) w (V3.setCell ⟨b, 21, none⟩ (.slice A3 (s.is.length + 1) c3)) := by
  have hlt := h.lt
  obtain ⟨⟨FL, FO, FU, sx, hq⟩, ok⟩ := h
  have ha := hq.isAq
  obtain ⟨p, h1, h2, ⟨h3, h4⟩, h5, ⟨h6, h6'⟩⟩ := hq
  have hvl : (s.is.map nvi).length = s.is.length := by simp
  obtain ⟨A3, c3, V3, r3, m3, on3, kin3⟩ := h6.app1 aqInt (nvi i) rfl (by omega)
  rw [hvl] at r3
  have gb : ¬ blk p.Ai = some b := fun e => by
    obtain ⟨cur, t⟩ := h6.type b e
    exact types_apart (by decide) t h1
  have hb3 := (on3.block b (lt_of_block h1) gb).trans h1
  have ha3 : IsAq V3 b := ⟨_, hb3⟩
  have hs3 := on3.size
  have onG : Only FU w V3 := on3.mono (fun k _ hk => h6' k hk)
  have on4 := only_set V3 ⟨b, 21, none⟩ (.slice A3 (s.is.length + 1) c3)
  have hs4 : (V3.setCell ⟨b, 21, none⟩ (.slice A3 (s.is.length + 1) c3)).heap.size = V3.heap.size := by simp [World.setCell]
  have onW : Only FU w (V3.setCell ⟨b, 21, none⟩ (.slice A3 (s.is.length + 1) c3)) := onG.trans on4 (fun k _ hk => by rw [show k = b from hk]; exact sx.ub)
  have eF : more FU w (V3.setCell ⟨b, 21, none⟩ (.slice A3 (s.is.length + 1) c3)) = more FU w V3 := by funext k; unfold more; rw [hs4]
  obtain ⟨vs, i1, i2, i3⟩ := h5
  have R3 : RowP V3 (more FU w V3) p.Ao p.co s.os := ⟨vs, i1.only on3 (fun k hk e => by
    obtain ⟨cur, t⟩ := h6.type k e
    obtain ⟨cur', t'⟩ := i1.type k hk
    exact types_apart (by decide) t t'), Pcs.only on3 (fun k _ hk e => by
    obtain ⟨cur, t⟩ := h6.type k e
    obtain ⟨cur', t'⟩ := hk
    exact types_apart (by decide) t t') (fun _ h => .inl h) i2, fun k hk => .inl (i3 k hk)⟩
  have N3 : NumP V3 (more FU w V3) A3 c3 (s.is ++ [i]) := ⟨by rw [List.map_append]; exact m3, fun k hk => (kin3 k hk).elim (fun h => .inl (h6' k h)) (fun h => .inr ⟨h, m3.blk_lt k hk⟩)⟩
  have hn : ∀ k, k ≠ b → ¬ k = (⟨b, 21, none⟩ : Addr).block := fun k hk e => hk e
  refine ⟨p.Ai, p.ci, by rw [cell_of_row w b _ _ _ (0, 0) h1]; rfl, A3, c3, V3, r3, by rw [cell_of_row V3 b _ _ _ (0, 0) hb3]; rfl, frozen_of_row V3 b 21 _ _ hb3, ⟨⟨FL, FO, more FU w (V3.setCell ⟨b, 21, none⟩ (.slice A3 (s.is.length + 1) c3)), ⟨sx.lb, sx.ob, .inl sx.ub, sx.lo, fun k hk hk' => ?_, fun k hk hk' => ?_, fun k => ?_, more_lt hlt onW.size⟩, ⟨p.A, p.c, p.B, p.Ar, p.cr, p.Ao, p.co, A3, c3⟩, ?_, h2.only ha onW (fun k hk hn hk' => hn (sx.lu k hk hk')) (fun _ h => h), ⟨h3.only ha onW (fun k hk hn hk' => hn (sx.ou k hk hk')) (fun _ h => h), h4.only ha onW (fun k hk hn hk' => hn (sx.ou k hk hk')) (fun _ h => h)⟩, ?_, ?_⟩, ok.ind i⟩, onW.mono (fun k _ hk => (sx.all k).2 (.inr (.inr hk))), hlt⟩
  · have := hlt k ((sx.all k).2 (.inl hk))
    exact hk'.elim (fun h => sx.lu k hk h) (fun h => by omega)
  · have := hlt k ((sx.all k).2 (.inr (.inl hk)))
    exact hk'.elim (fun h => sx.ou k hk h) (fun h => by omega)
  · unfold more
    rw [sx.all k]
    constructor
    · rintro ((h | h | h) | h)
      · exact .inl h
      · exact .inr (.inl h)
      · exact .inr (.inr (.inl h))
      · exact .inr (.inr (.inr h))
    · rintro (h | h | h | h)
      · exact .inl (.inl h)
      · exact .inl (.inr (.inl h))
      · exact .inl (.inr (.inr h))
      · exact .inr h
  · rw [heap_setCell_same V3 b 21 _ _ _ hb3]
    simp [aqc, Aq.ind]
  · rw [eF]
    exact R3.only ha3 on4 (fun k _ hk => hn k hk) (fun _ h => h)
  · rw [eF]
    exact N3.only ha3 on4 (fun k _ hk => hn k hk) (fun _ h => h)
end
end Go.Proofs.Ytgkdabllaankcaa
/- start, clear, end, ahead, State, Counts of an end of a session. Condition: the counts are below 10^12. -/
namespace Go.Proofs.Ytgkdabllaankcaa
open Go.RowKit
set_option linter.unusedVariables false

section
variable {w : World} {F : Nat → Prop} {b : Nat} {s : Aq}
theorem aqStart_calls (h : AqP w F b s) : Calls Try.prog 34 #[.pointer (some ⟨b, 0, none⟩)] w fun e w' => e = .returned (.tuple #[]) ∧ AqTurn F b s.start w w' := by
  have c1 := h.c1
  have c17 := h.c17
  have z := h.z 17
  have FI := Lib.hid (show AqTurn F b s.start w _ from h.setLf h.2.t1b)
  clear h
  generalize s.t1 = t at *
  generalize s.lf = l at *
  go_enter Try.func34, Try.ntmps34
  go_wp2
  go_end0
  exact ⟨rfl, FI.out⟩
theorem aqState_calls (h : AqP w F b s) : Calls Try.prog 10 #[.pointer (some ⟨b, 0, none⟩)] w fun e w' => e = .returned (.int .i64 (s.st : Int)) ∧ w' = w := by
  have c4 := h.c4
  clear h
  generalize s.st = t at *
  go_enter Try.func10, Try.ntmps10
  go_wp2
  go_ret
  exact ⟨rfl, rfl⟩
theorem aqCounts_calls (h : AqP w F b s) : Calls Try.prog 17 #[.pointer (some ⟨b, 0, none⟩)] w fun e w' => e = .returned (.tuple #[.int .i64 (s.sn : Int), .int .i64 (s.ak : Int), .int .i64 (s.lo : Int)]) ∧ ∃ q, w' = w.drewN q := by
  have c22 := h.c22
  have c23 := h.c23
  have c24 := h.c24
  clear h
  generalize s.sn = t at *
  generalize s.ak = u at *
  generalize s.lo = v at *
  go_enter Try.func17, Try.ntmps17
  go_wp2_with fail
  go_quiet (fail)
  go_wp2
  go_ret3
  exact ⟨rfl, _, rfl⟩
set_option maxRecDepth 20000 in
set_option maxHeartbeats 1000000 in
theorem aqClear_calls (h : AqP w F b s) (hlo : s.lo ≤ 1000000000000) : Calls Try.prog 32 #[.pointer (some ⟨b, 0, none⟩)] w fun e w' => e = .returned (.tuple #[]) ∧ AqTurn F b s.clear w w' := by
  have OK := Lib.hid h.2
  have hD : AqP w.drew F b s := h.drewN 1
  have c24 := hD.c24
  obtain ⟨FL, R, L, hFL, conv⟩ := hD.log
  have CL := alClear_calls L
  have LLT := L.lt
  have hll := h.2.lg.len
  have hwr : IntKind.i64.wrap ((s.lo : Int) + (s.lg.l.length : Int)) = ((s.lo + s.lg.l.length : Nat) : Int) := by rw [IntKind.wrap_i64]; omega
  have okc : (s.setLg s.lg.clear).Ok := h.2.setLg h.2.lg.clear rfl (fun x hx => (List.not_mem_nil hx).elim)
  have CV := Lib.hid (show ∀ w1, AlP w1 FL b R s.lg.clear → Only FL w.drew w1 → AqTurn F b (s.setLg s.lg.clear) w w1 from fun w1 L1 o1 => AqTurn.from_drewN (n := 1) (conv w1 _ (AlTurn.of_same L1 o1 LLT) okc))
  clear conv L hFL LLT okc h hD
  have HN := Lib.hid hll
  clear hll hlo
  go_enter Try.func32, Try.ntmps32
  go_wp2_with fail
  go_region_law ((go_simp; go_at_call 53; refine CL.mono ?_; rintro e w1 ⟨rfl, L1, o1⟩; have T1 := CV.out w1 L1 o1; have P1 := T1.1; have k24 : w1.cell? ⟨b, 24, none⟩ = some (.int .i64 (s.lo : Int)) := P1.c24; have z24 := P1.z 24; clear L1 o1))
  all_goals
    have T2 : AqTurn (more F w w1) b ((s.setLg s.lg.clear).setLo (s.lo + s.lg.l.length)) w1 (w1.setCell ⟨b, 24, none⟩ (.int .i64 ((s.lo : Int) + (s.lg.l.length : Int)))) := by
      rw [← Int.natCast_add]
      exact P1.setLo _
    have HB := Lib.hid (AqTurn.trans T1 T2)
    clear T1 T2 P1 k24 z24 CL CV hwr
    obtain ⟨w2, hw2⟩ : ∃ w2, w2 = w1.setCell ⟨b, 24, none⟩ (.int .i64 ((s.lo : Int) + (s.lg.l.length : Int))) := ⟨_, rfl⟩
    rw [← hw2] at HB ⊢
    clear hw2
    obtain ⟨FO, R', O, hFO, conv'⟩ := HB.out.1.ord
    have CO := aoClear_calls O
    have OV := Lib.hid (show ∀ w3, AoP w3 FO b R' s.od.clear → Only FO w2 w3 → AqTurn F b (((s.setLg s.lg.clear).setLo (s.lo + s.lg.l.length)).setOd s.od.clear) w w3 from fun w3 O3 o3 => AqTurn.trans HB.out (conv' w3 _ (AoTurn.of_same O3 o3 O.lt) (HB.out.1.2.setOd OK.out.od.clear rfl)))
    clear conv' hFO O
    go_wp2_with fail
    refine CO.mono ?_
    rintro e w3 ⟨rfl, O3, o3⟩
    have T3 := OV.out w3 O3 o3
    have P3 := T3.1
    have FI := Lib.hid (((T3.thenLf (n := 0) (by omega)).thenTr 0).thenRj false)
    have c17 := P3.c17
    have c18 := P3.c18
    have c19 := P3.c19
    have z17 := P3.z 17
    have z18 := P3.z 18
    have z19 := P3.z 19
    clear T3 P3 O3 o3 CO OV HB
    go_wp2
    go_end0
    exact ⟨rfl, FI.out⟩
end
end Go.Proofs.Ytgkdabllaankcaa
/- send, sendMessage and end of an end of a session. Condition: fewer than a million outputs and indications; the message reads as its octets. -/
namespace Go.Proofs.Ytgkdabllaankcaa
open Go.RowKit
set_option linter.unusedVariables false

section
variable {w : World} {F : Nat → Prop} {b : Nat} {s : Aq}
theorem aqNext_calls (h : AqP w F b s) : Calls Try.prog 55 #[.pointer (some ⟨b, 12, none⟩)] w fun e w' => e = .returned (.int .i64 (s.od.e : Int)) ∧ w' = w := by
  obtain ⟨FO, R, O, _⟩ := h.ord
  exact aoNext_calls O
set_option maxRecDepth 20000 in
set_option maxHeartbeats 1000000 in
theorem aqSendM_calls (h : AqP w F b s) (hf : s.os.length ≤ 1000000) (n : Int) (X : Option Addr) (e : Nat) (x : List UInt8) (hr : Rd w X x) (hx : x.length ≤ 5000) (q : Bool) :
    Calls Try.prog 47 #[.pointer (some ⟨b, 0, none⟩), .int .i64 n, .slice X x.length e, .bool q] w fun r w' => r = .returned (.tuple #[]) ∧ AqTurn F b (s.sendM n x q) w w' := by
  have hD : AqP w.drew F b s := h.drewN 1
  have hs : s.sendM n x q = s.put s.tg 0 n s.od.e q x := rfl
  have PC := aqPut_calls hD hf h.2.tgb 0 n s.od.e q X e x hr.drew hx
  have NX := fun q => aqNext_calls (h.drewN q)
  have c5 := hD.c5
  have c5' := h.c5
  rw [hs]
  have FI := Lib.hid (show ∀ w', AqTurn F b (s.put s.tg 0 n s.od.e q x) w.drew w' → AqTurn F b (s.put s.tg 0 n s.od.e q x) w w' from fun w' T => AqTurn.from_drewN (n := 1) T)
  generalize s.put s.tg 0 n s.od.e q x = s' at *
  clear h hD hs hr hx hf
  generalize s.od.e = y at *
  generalize s.tg = t at *
  go_enter Try.func47, Try.ntmps47
  go_wp2_with fail
  refine wp_region_still_tail 13 (by kernel_rfl) (by kernel_rfl) ?_
  simp only [List.take_succ_cons, List.take_zero, List.drop_succ_cons, List.drop_zero]
  repeat still_step
  still_call (NX _)
  repeat still_step
  refine wpStill_nil ?_
  go_wp2_with fail
  refine PC.mono ?_
  rintro e1 w' ⟨rfl, T⟩
  have FJ := Lib.hid (FI.out _ T)
  clear T FI PC
  go_wp2
  go_end0
  exact ⟨rfl, FJ.out⟩
/-- the control field lies in a box of its own -/
theorem send_mem (h : AqP w F b s) (hf : s.os.length ≤ 1000000) (k nr : Int) (p : Bool) (W : World) (be : Below w.heap.size w W) :
    AqP W F b s ∧ W.cell? ⟨b, 5, none⟩ = some (.int .i64 (s.tg : Int)) ∧ Calls Try.prog 56 #[.pointer (some ⟨b, 0, none⟩), .int .i64 (s.tg : Int), .agg #[.int .i64 k, .int .i64 0, .int .i64 nr, .bool p], .slice none 0 0] W fun r w' => r = .returned (.tuple #[]) ∧ AqTurn F b (s.put s.tg k 0 nr p []) w w' := by
  have hW := h.below be
  refine ⟨hW, hW.c5, (aqPut_calls hW hf h.2.tgb k 0 nr p none 0 [] (Rd.nil _ _) (Nat.zero_le _)).mono ?_⟩
  rintro e w' ⟨rfl, T⟩
  exact ⟨rfl, T.after be h.lt⟩
theorem send_box (w : World) (k v : Int) (p : Bool) (W : World) (hW : W = (boxed w k 0 0 p).setCell ⟨w.heap.size, 2, none⟩ (.int .i64 v)) :
    Below w.heap.size w W ∧ W.cell? ⟨w.heap.size, 0, none⟩ = some (.int .i64 k) ∧ W.cell? ⟨w.heap.size, 1, none⟩ = some (.int .i64 0) ∧ W.cell? ⟨w.heap.size, 2, none⟩ = some (.int .i64 v) ∧ W.cell? ⟨w.heap.size, 3, none⟩ = some (.bool p) := by
  have hh : W.heap[w.heap.size]? = some (.cells #[.int .i64 k, .int .i64 0, .int .i64 v, .bool p] 54 (0, 0)) := by
    rw [hW]
    exact heap_setCell_same _ _ 2 _ _ _ (heap_alloc_new w _)
  refine ⟨by rw [hW]; exact (boxed_below w k 0 0 p).setCell (Nat.le_refl _) _, ?_, ?_, ?_, ?_⟩ <;> rw [cell_of_row W _ _ _ _ (0, 0) hh] <;> rfl
set_option maxRecDepth 20000 in
set_option maxHeartbeats 1000000 in
theorem aqSend_calls (h : AqP w F b s) (hf : s.os.length ≤ 1000000) (k : Int) (p : Bool) :
    Calls Try.prog 33 #[.pointer (some ⟨b, 0, none⟩), .int .i64 k, .bool p] w fun r w' => r = .returned (.tuple #[]) ∧ AqTurn F b (s.send k p) w w' := by
  have be0 := boxed_below w k 0 0 p
  by_cases hk : k = 1 ∨ k = 2
  · have es : s.send k p = s.put s.tg k 0 s.od.e p [] := by unfold Aq.send Aq.nrOf; rw [if_pos hk]
    rw [es]
    have NX := aqNext_calls (h.below be0)
    obtain ⟨W, hW⟩ : ∃ W, W = (boxed w k 0 0 p).setCell ⟨w.heap.size, 2, none⟩ (.int .i64 (s.od.e : Int)) := ⟨_, rfl⟩
    obtain ⟨be, b0, b1, b2, b3⟩ := send_box w k s.od.e p W hW
    obtain ⟨hA, c5, PC⟩ := send_mem h hf k s.od.e p W.drew be.drew
    have hz := frozen_of_row (boxed w k 0 0 p) w.heap.size 2 _ _ (heap_alloc_new w _)
    have hq := new_cell w #[.int .i64 k, .int .i64 0, .int .i64 0, .bool p] (T := 54) 2 (v := .int .i64 0) rfl
    generalize s.put s.tg k 0 s.od.e p [] = s' at *
    unfold boxed at NX hW hz
    have hW' := hW.symm
    have d5 : W.cell? ⟨b, 5, none⟩ = some (.int .i64 (s.tg : Int)) := c5
    have b0' : W.drew.cell? ⟨w.heap.size, 0, none⟩ = some (.int .i64 k) := b0
    have b1' : W.drew.cell? ⟨w.heap.size, 1, none⟩ = some (.int .i64 0) := b1
    have b2' : W.drew.cell? ⟨w.heap.size, 2, none⟩ = some (.int .i64 (s.od.e : Int)) := b2
    have b3' : W.drew.cell? ⟨w.heap.size, 3, none⟩ = some (.bool p) := b3
    clear hW h hf be hA es be0
    generalize s.od.e = y at *
    generalize s.tg = t at *
    rcases hk with rfl | rfl
    all_goals
      go_enter Try.func33, Try.ntmps33
      go_wp2_with fail
      refine NX.mono ?_
      rintro e w' ⟨rfl, rfl⟩
      go_wp2_with fail
      refine wp_region_still_tail 6 (by kernel_rfl) (by kernel_rfl) ?_
      simp only [List.take_succ_cons, List.take_zero, List.drop_succ_cons, List.drop_zero]
      repeat still_step
      refine wpStill_nil ?_
      go_wp2_with fail
      refine PC.mono ?_
      rintro e1 w' ⟨rfl, T⟩
      have FJ := Lib.hid T
      clear T PC
      go_wp2
      go_end0
      exact ⟨rfl, FJ.out⟩
  · have es : s.send k p = s.put s.tg k 0 0 p [] := by unfold Aq.send Aq.nrOf; rw [if_neg hk]
    rw [es]
    have e1 : (k == 1) = false := by simp; omega
    have e2 : (k == 2) = false := by simp; omega
    obtain ⟨W, hW⟩ : ∃ W, W = boxed w k 0 0 p := ⟨_, rfl⟩
    have be : Below w.heap.size w W := by rw [hW]; exact be0
    have hh : W.heap[w.heap.size]? = some (.cells #[.int .i64 k, .int .i64 0, .int .i64 0, .bool p] 54 (0, 0)) := by rw [hW]; exact heap_alloc_new w _
    have b0 : W.cell? ⟨w.heap.size, 0, none⟩ = some (.int .i64 k) := by rw [cell_of_row W _ _ _ _ (0, 0) hh]; rfl
    have b1 : W.cell? ⟨w.heap.size, 1, none⟩ = some (.int .i64 0) := by rw [cell_of_row W _ _ _ _ (0, 0) hh]; rfl
    have b2 : W.cell? ⟨w.heap.size, 2, none⟩ = some (.int .i64 0) := by rw [cell_of_row W _ _ _ _ (0, 0) hh]; rfl
    have b3 : W.cell? ⟨w.heap.size, 3, none⟩ = some (.bool p) := by rw [cell_of_row W _ _ _ _ (0, 0) hh]; rfl
    obtain ⟨hA, c5, PC⟩ := send_mem h hf k 0 p W.drew be.drew
    generalize s.put s.tg k 0 0 p [] = s' at *
    unfold boxed at hW
    have hW' := hW.symm
    have d5 : W.cell? ⟨b, 5, none⟩ = some (.int .i64 (s.tg : Int)) := c5
    have b0' : W.drew.cell? ⟨w.heap.size, 0, none⟩ = some (.int .i64 k) := b0
    have b1' : W.drew.cell? ⟨w.heap.size, 1, none⟩ = some (.int .i64 0) := b1
    have b2' : W.drew.cell? ⟨w.heap.size, 2, none⟩ = some (.int .i64 0) := b2
    have b3' : W.drew.cell? ⟨w.heap.size, 3, none⟩ = some (.bool p) := b3
    clear hW h hf be hA es be0 hh hk
    generalize s.tg = t at *
    go_enter Try.func33, Try.ntmps33
    go_wp2_with fail
    refine wp_region_still_tail 6 (by kernel_rfl) (by kernel_rfl) ?_
    simp only [List.take_succ_cons, List.take_zero, List.drop_succ_cons, List.drop_zero]
    repeat still_step
    refine wpStill_nil ?_
    go_wp2_with fail
    refine PC.mono ?_
    rintro e3 w' ⟨rfl, T⟩
    have FJ := Lib.hid T
    clear T PC
    go_wp2
    go_end0
    exact ⟨rfl, FJ.out⟩
set_option maxHeartbeats 1000000 in
theorem aqFin_calls (h : AqP w F b s) (hlo : s.lo ≤ 1000000000000) (hi : s.is.length ≤ 1000000) :
    Calls Try.prog 48 #[.pointer (some ⟨b, 0, none⟩)] w fun r w' => r = .returned (.tuple #[]) ∧ AqTurn F b s.fin w w' := by
  have CL := aqClear_calls h hlo
  have HI := Lib.hid hi
  clear hi hlo h
  go_enter Try.func48, Try.ntmps48
  go_wp2_with fail
  refine CL.mono ?_
  rintro e w1 ⟨rfl, T⟩
  have c4 := T.1.c4
  have z4 := T.1.z 4
  obtain ⟨W2, hW2⟩ : ∃ W2, w1.setCell ⟨b, 4, none⟩ (.int .i64 0) = W2 := ⟨_, rfl⟩
  have T2 : AqTurn F b (s.clear.setSt 0) w W2 := by rw [← hW2]; exact T.thenSt (n := 0) (by omega)
  obtain ⟨A, c, c21, A3, c3, V3, r3, j3, z3, T3⟩ := aqInd_mem T2.1 2 HI.out
  have FI := Lib.hid (show AqTurn F b s.fin w _ from T2.trans T3)
  clear T T2 T3 HI CL
  generalize ((s.clear.setSt 0)).is.length = n at *
  generalize s.clear.st = v at *
  go_wp2_with (at_builtin; refine Lib.wpList_append_run _ rfl _ _ _ _ rfl _ _ rfl rfl _ _ (r3 _) ?_)
  go_end0
  exact ⟨rfl, FI.out⟩
end
end Go.Proofs.Ytgkdabllaankcaa
/- Next and Body of a log of the program. Condition of Body: the number is one of 64 bits. -/
namespace Go.Proofs.Ytgkdabllaankcaa
open Go.RowKit
set_option linter.unusedVariables false

theorem Pcs.at_ {w : World} {F : Nat → Prop} : ∀ {vs : List Value} {l : List (List UInt8)}, Pcs w F vs l → ∀ {i : Nat}, i < l.length → ∃ B d, vs[i]? = some (.slice B (l.getD i []).length d) ∧ Mid w B d (l.getD i []) ∧ ∀ k, blk B = some k → F k
  | [], [], _, i, hi => by simp at hi
  | _ :: _, _ :: _, h, 0, hi => by
    obtain ⟨B, d, h1, h2, h3⟩ := h.1
    exact ⟨B, d, by simp [h1], h2, h3⟩
  | _ :: _, _ :: _, h, i + 1, hi => by
    obtain ⟨B, d, h1, h2⟩ := Pcs.at_ h.2 (i := i) (by simpa using hi)
    exact ⟨B, d, by simpa using h1, h2⟩
  | [], _ :: _, h, _, _ => h.elim
  | _ :: _, [], h, _, _ => h.elim
/-- what Next returns, and what it leaves -/
def AlNexted (F : Nat → Prop) (b : Nat) (R : Rl) (s : Lg) (w : World) (e : Ending) (w' : World) : Prop :=
  ∃ A c, e = .returned (.tuple #[.int .i64 (s.nextN : Int), .slice A s.nextX.length c, .bool (!s.stop)]) ∧ Own w' w.heap.size A c s.nextX ∧ AlP w' F b R s.next ∧ Only F w w'
/-- what Body returns -/
def AlBody (s : Lg) (k : Int) (w : World) (e : Ending) (w' : World) : Prop :=
  ∃ A c, e = .returned (.tuple #[.slice A (s.body k).length c, .bool (s.has k)]) ∧ Own w' w.heap.size A c (s.body k) ∧ Below w.heap.size w w'
section
variable {w : World} {F : Nat → Prop} {b : Nat} {R : Rl} {s : Lg}
/-- the i-th message in memory -/
theorem al_at (h : AlP w F b R s) {i : Nat} (hi : i < s.l.length) : ∃ g off c B d, w.cell? ⟨b, 11, none⟩ = some (.slice (some ⟨g, off, none⟩) s.l.length c) ∧ w.cell? ⟨g, off + i, none⟩ = some (.slice B (s.l.getD i []).length d) ∧ Mid w B d (s.l.getD i []) ∧ (∀ k, blk B = some k → F k ∧ k ≠ b) ∧ ¬ b = g := by
  obtain ⟨⟨A, c, vs, h1, h2, h3, h4, h5, h6⟩, ok⟩ := h
  obtain ⟨B, d, hv, hm, hF⟩ := h3.at_ hi
  obtain ⟨g, off, rfl, hc⟩ := h2.at_ hv
  exact ⟨g, off, c, B, d, (alcell h1).2.2.2.2.2, hc, hm, fun k hk => ⟨hF k hk, alpcs_apart h1 k (hF k hk) (hm.type k hk)⟩, fun e => alrow_apart h1 h2 (by rw [e]; rfl)⟩
set_option maxRecDepth 20000 in
set_option maxHeartbeats 400000 in
theorem alNext_calls' (h : AlP w F b R s) : Calls Try.prog 46 #[.pointer (some ⟨b, 6, none⟩)] w (AlNexted F b R s w) := by
  have ok := h.2
  have SN := alSent_calls h
  have H0 := Lib.hid h
  obtain ⟨⟨A, c, vs, hb, _⟩, _⟩ := h
  obtain ⟨c0, c1, c2, c3, c4, c5⟩ := alcell hb
  cases hs : s.stop
  · obtain ⟨e1, e2⟩ := Lg.stop_false hs
    have hnl : s.n < s.l.length := by have := ok.nl; omega
    have g1 : ((s.n : Int) == (s.l.length : Int)) = false := by simp; omega
    have g2 : ¬ (s.W : Int) ≤ (s.n : Int) := by omega
    have g3 : (0 : Int) ≤ (s.n : Int) := by omega
    have g4 : (s.n : Int) < (s.l.length : Int) := by omega
    obtain ⟨g, off, c', B, d, k5, kx, mx, kF, hgb⟩ := al_at H0.out hnl
    have NX := fun v => alNext_calls s.nx s.m v (Lg.nx_lt ok) (by have := ok.m8; omega) ok.m9
    rw [← Lg.next_nx hs] at NX
    have en : s.next = ⟨s.m, s.W, s.Q, s.f, s.n + 1, s.l⟩ := by unfold Lg.next; rw [if_neg (by simp [hs])]
    have okN := ok.next
    have hset := fun q => (H0.out.1.drewN q).setX s.next.nx
    have y4 := frozen_of_row w b 10 _ _ hb
    have hx := Lg.get_small ok s.n
    have hsz : ∀ q, ((w.drewN q).setCell ⟨b, 10, none⟩ (.int .i64 (s.next.nx : Int))).heap.size = w.heap.size := fun q => by simp [World.setCell]
    have CL := fun q => cloneOwn_calls B d (s.l.getD s.n []) ((w.drewN q).setCell ⟨b, 10, none⟩ (.int .i64 (s.next.nx : Int))) (((mx.drewN q).only (only_set (w.drewN q) ⟨b, 10, none⟩ (.int .i64 (s.next.nx : Int))) (fun k hk e => (kF k hk).2 e)).rd) hx
    have FI := Lib.hid (show ∀ q A1 c1 V, Own V ((w.drewN q).setCell ⟨b, 10, none⟩ (.int .i64 (s.next.nx : Int))).heap.size A1 c1 (s.l.getD s.n []) → Below ((w.drewN q).setCell ⟨b, 10, none⟩ (.int .i64 (s.next.nx : Int))).heap.size ((w.drewN q).setCell ⟨b, 10, none⟩ (.int .i64 (s.next.nx : Int))) V → AlNexted F b R s w (.returned (.tuple #[.int .i64 (s.nx : Int), .slice A1 (s.l.getD s.n []).length c1, .bool true])) V from fun q A1 c1 V ow be => by
      have P1 : AlP ((w.drewN q).setCell ⟨b, 10, none⟩ (.int .i64 (s.next.nx : Int))) F b R s.next := by
        refine ⟨?_, okN⟩
        have := (hset q).2.1
        rw [en] at this ⊢
        exact this
      have ex : s.nextX = s.l.getD s.n [] := by unfold Lg.nextX; rw [if_neg (by simp [hs])]
      have eN : s.nextN = s.nx := by unfold Lg.nextN; rw [if_neg (by simp [hs])]
      unfold AlNexted
      rw [ex, eN, hs]
      rw [hsz q] at ow
      exact ⟨A1, c1, rfl, ow, P1.only (G := fun _ => False) (Only.of_below _ be) (fun _ _ h => h), (only_from_drewN (hset q).2.2).trans (Only.of_below (fun _ => False) be) (fun _ _ h => h.elim)⟩)
    clear hb c2 c3 c5 H0 en okN hset kF mx e1 e2 ok
    generalize s.next.nx = x' at *
    generalize s.l.getD s.n [] = X at *
    generalize s.l.length = m at *
    generalize s.n = n at *
    generalize s.nx = x at *
    generalize s.m = M at *
    generalize s.W = W at *
    clear hsz
    go_enter Try.func46, Try.ntmps46
    go_wp2_with fail
    refine SN.mono ?_
    rintro e w' ⟨rfl, q, rfl⟩
    go_wp2_with fail
    refine (NX _).mono ?_
    rintro e w' ⟨rfl, rfl⟩
    have CC := CL q
    have FJ := Lib.hid (FI.out q)
    clear CL FI NX SN
    go_wp2_with fail
    refine CC.mono ?_
    rintro e V ⟨A1, c1, rfl, ow, be⟩
    have FK := Lib.hid (FJ.out A1 c1 V ow be)
    clear ow be FJ CC
    go_wp2
    go_ret3
    exact FK.out
  · have FI := Lib.hid (show ∀ q, AlNexted F b R s w (.returned (.tuple #[.int .i64 0, .slice none 0 0, .bool false])) (w.drewN q) from fun q => by
      have ex : s.nextX = [] := by unfold Lg.nextX; rw [if_pos hs]
      have eN : s.nextN = 0 := by unfold Lg.nextN; rw [if_pos hs]
      have en : s.next = s := by unfold Lg.next; rw [if_pos hs]
      unfold AlNexted
      rw [ex, eN, hs, en]
      exact ⟨none, 0, rfl, Own.nil _ _, H0.out.drewN q, only_drewN (Only.refl _ _) q⟩)
    have hnl := ok.nl
    by_cases g0 : s.n = s.l.length
    · have g1 : ((s.n : Int) == (s.l.length : Int)) = true := by simp; omega
      clear hb c0 c1 c2 c3 c4 H0 ok hs
      generalize s.l.length = m at *
      generalize s.n = n at *
      clear g0
      go_enter Try.func46, Try.ntmps46
      go_wp2_with fail
      refine SN.mono ?_
      rintro e w' ⟨rfl, q, rfl⟩
      go_wp2
      go_ret3
      exact FI.out q
    · have g1 : ((s.n : Int) == (s.l.length : Int)) = false := by simp; omega
      have g2 : (s.W : Int) ≤ (s.n : Int) := by unfold Lg.stop at hs; simp at hs; omega
      clear hb c0 c2 c3 c4 H0 ok hs
      generalize s.l.length = m at *
      generalize s.n = n at *
      generalize s.W = W at *
      clear g0
      go_enter Try.func46, Try.ntmps46
      go_wp2_with fail
      refine SN.mono ?_
      rintro e w' ⟨rfl, q, rfl⟩
      go_wp2
      go_ret3
      exact FI.out q
set_option maxRecDepth 20000 in
set_option maxHeartbeats 400000 in
theorem alBody_calls (h : AlP w F b R s) (k : Int) (hk : I64 k) : Calls Try.prog 51 #[.pointer (some ⟨b, 6, none⟩), .int .i64 k] w (AlBody s k w) := by
  have ok := h.2
  have SN := fun q : Nat => alSent_calls (h.drewN q)
  have BF := alBefore_calls h k hk
  cases hs : s.has k
  · have FI := Lib.hid (show ∀ q, AlBody s k w (.returned (.tuple #[.slice none 0 0, .bool false])) (w.drewN q) from fun q => by
      have ex : s.body k = [] := by unfold Lg.body; rw [hs]; rfl
      unfold AlBody
      rw [ex, hs]
      exact ⟨none, 0, rfl, Own.nil _ _, ⟨rfl, rfl, rfl, Nat.le_refl _, fun _ _ => rfl⟩⟩)
    cases hn : s.isN k
    · rw [hn, if_neg (by simp)] at BF
      clear h ok SN hs hn hk
      go_enter Try.func51, Try.ntmps51
      go_wp2_with fail
      refine BF.mono ?_
      rintro e w' ⟨rfl, q, rfl⟩
      go_wp2
      go_ret2
      exact FI.out q
    · rw [hn, if_pos rfl] at BF
      have g1 : (s.n : Int) ≤ (s.ds k.toNat : Int) := by unfold Lg.has at hs; rw [hn] at hs; simp at hs; omega
      clear h ok hs hn hk
      generalize s.ds k.toNat = d at *
      generalize s.n = n at *
      go_enter Try.func51, Try.ntmps51
      go_wp2_with fail
      refine BF.mono ?_
      rintro e w' ⟨rfl, q, rfl⟩
      go_wp2_with fail
      refine (SN q).mono ?_
      rintro e w' ⟨rfl, q', rfl⟩
      have FK := Lib.hid (FI.out (q + q'))
      clear FI SN BF
      go_wp2
      go_ret2
      exact FK.out
  · have hn : s.isN k = true := by unfold Lg.has at hs; cases hn : s.isN k <;> rw [hn] at hs <;> simp at hs ⊢
    have hd : s.ds k.toNat < s.n := by unfold Lg.has at hs; rw [hn] at hs; simp at hs; exact hs
    rw [hn, if_pos rfl] at BF
    have hnl := ok.nl
    have g1 : ¬ (s.n : Int) ≤ (s.ds k.toNat : Int) := by omega
    have g3 : (0 : Int) ≤ (s.ds k.toNat : Int) := by omega
    have g4 : (s.ds k.toNat : Int) < (s.l.length : Int) := by omega
    obtain ⟨g, off, c', B, d, k5, kx, mx, kF, hgb⟩ := al_at h (i := s.ds k.toNat) (by omega)
    have hx := Lg.get_small ok (s.ds k.toNat)
    have CL := fun q => cloneOwn_calls B d (s.l.getD (s.ds k.toNat) []) (w.drewN q) (mx.drewN q).rd hx
    have FI := Lib.hid (show ∀ q A1 c1 V, Own V (w.drewN q).heap.size A1 c1 (s.l.getD (s.ds k.toNat) []) → Below (w.drewN q).heap.size (w.drewN q) V → AlBody s k w (.returned (.tuple #[.slice A1 (s.l.getD (s.ds k.toNat) []).length c1, .bool true])) V from fun q A1 c1 V ow be => by
      have ex : s.body k = s.l.getD (s.ds k.toNat) [] := by unfold Lg.body; rw [hs]; rfl
      unfold AlBody
      rw [ex, hs]
      exact ⟨A1, c1, rfl, ow, ⟨be.os, be.tape, be.output, be.size, be.block⟩⟩)
    clear h kF mx ok hs hn hd hk hgb
    generalize s.l.getD (s.ds k.toNat) [] = X at *
    generalize s.ds k.toNat = j at *
    generalize s.l.length = m at *
    generalize s.n = n at *
    go_enter Try.func51, Try.ntmps51
    go_wp2_with fail
    refine BF.mono ?_
    rintro e w' ⟨rfl, q, rfl⟩
    go_wp2_with fail
    refine (SN q).mono ?_
    rintro e w' ⟨rfl, q', rfl⟩
    have CC := CL (q + q')
    have FJ := Lib.hid (FI.out (q + q'))
    clear CL FI SN BF
    go_wp2_with fail
    refine CC.mono ?_
    rintro e V ⟨A1, c1, rfl, ow, be⟩
    have FK := Lib.hid (FJ.out A1 c1 V ow be)
    clear ow be FJ CC
    go_wp2
    go_ret2
    exact FK.out
end
end Go.Proofs.Ytgkdabllaankcaa
/- A row of numbers of the call's own (of any integer kind): what it holds, append. Condition of append: at most 100000 of them. -/
namespace Go.Proofs.Ytgkdabllaankcaa
open Go.RowKit
set_option linter.unusedVariables false

/-- sl is the type of the slices of e, e an integer type of kind k -/
structure NT (sl e : TypeId) (k : IntKind) (bytes : Nat) : Prop where
  und : Try.prog.underlying sl = some (.slice e)
  info : (Try.prog.info? e).map (fun i => (i.zero, i.size, i.bytes)) = some (some (.int k 0), 1, bytes)
  small : bytes ≤ 8
/-- the value of a number -/
def nv (k : IntKind) (x : Nat) : Value := .int k (x : Int)
/-- the slice owns the numbers L, in a block from base on -/
def NOwn (e : TypeId) (k : IntKind) (w : World) (base : Nat) (A : Option Addr) (c : Nat) (L : List Nat) : Prop := w.ownsRow base e 1 (.slice A L.length c) L.length (L.map (nv k)) ∧ (L = [] → A = none ∧ c = 0)
section
variable {sl e : TypeId} {k : IntKind} {w : World} {base : Nat} {A : Option Addr} {c : Nat} {L : List Nat}
theorem NOwn.nil (e : TypeId) (k : IntKind) (w : World) (base : Nat) : NOwn e k w base none 0 [] := ⟨World.ownsRow_nil _ _ _ _, fun _ => ⟨rfl, rfl⟩⟩
theorem NOwn.parts (h : NOwn e k w base A c L) (hl : L ≠ []) :
    ∃ g, A = some ⟨g, 0, none⟩ ∧ base ≤ g ∧ g < w.heap.size ∧ L.length ≤ c ∧ (∀ j, j < L.length → w.cell? ⟨g, 0 + j, none⟩ = some (.int k ((L.getD j 0 : Nat) : Int))) ∧ ∀ j, w.frozen? ⟨g, j, none⟩ = false := by
  have hp := List.length_pos_iff.2 hl
  have h' := h.1
  rcases h.1.2 with ⟨_, h0⟩ | ⟨g, cap, cur, hv, hb, hh, hn, hm, _⟩
  · omega
  injection hv with hA _ hc
  subst hA hc
  refine ⟨g, rfl, hb, lt_of_block hh, hn, fun j hj => ?_, fun j => frozen_of_row w g j _ _ hh⟩
  rw [Nat.zero_add, World.ownsRow.cellAt h' j (by omega)]
  simp [List.getElem?_eq_getElem hj, nv]
theorem NOwn.blk_ge (h : NOwn e k w base A c L) : ∀ i, blk A = some i → base ≤ i ∧ i < w.heap.size := fun i hi => by
  by_cases hl : L = []
  · rw [(h.2 hl).1] at hi
    cases hi
  · obtain ⟨g, rfl, hg, hg2, _⟩ := h.parts hl
    injection hi with hi
    have hi' : g = i := hi
    omega
theorem NOwn.only {F : Nat → Prop} {w' : World} (h : NOwn e k w base A c L) (o : Only F w w') (hF : ∀ i, blk A = some i → ¬ F i) : NOwn e k w' base A c L := ⟨ownsRow_only h.1 o hF, h.2⟩
theorem NOwn.drewN (h : NOwn e k w base A c L) (m : Nat) : NOwn e k (w.drewN m) base A c L := h
theorem NOwn.lower (h : NOwn e k w base A c L) {base' : Nat} (hb : base' ≤ base) : NOwn e k w base' A c L := by
  refine ⟨⟨h.1.1, ?_⟩, h.2⟩
  rcases h.1.2 with h0 | ⟨g, cap, cur, h1, h2, h3⟩
  · exact .inl h0
  · exact .inr ⟨g, cap, cur, h1, Nat.le_trans hb h2, h3⟩
theorem NOwn.app {bytes : Nat} (T : NT sl e k bytes) (h : NOwn e k w base A c L) (hb : base ≤ w.heap.size) (hlen : L.length ≤ 100000) (x : Nat) :
    ∃ A' c' w', (∀ ty, (Builtin.append_ #[sl, sl] ty #[.slice A L.length c, .slice (some ⟨w.heap.size, 0, none⟩) 1 1]).run Try.prog (w.alloc (.cells #[.int k (x : Int)] e)) = .ok (.slice A' (L.length + 1) c') w') ∧ NOwn e k w' base A' c' (L ++ [x]) ∧
      Only (fun i => blk A = some i) w w' ∧ (∀ i, blk A' = some i → blk A = some i ∨ w.heap.size ≤ i) := by
  obtain ⟨i0, hi, hz0, hz1, hz2⟩ := info_parts T.info
  have hsm := T.small
  obtain ⟨B', d', w2, r, o, on, kin⟩ := app_kin (w.alloc (.cells #[.int k (x : Int)] e)) base sl e i0 _ bytes T.und hi hz0 hz1 hz2 rfl A c L.length (L.map (nv k)) (World.ownsRow.alloc h.1 _) ⟨w.heap.size, 0, none⟩ 1 1 [nv k x] rfl
    (fun j u hu => by
      rw [Go.WideShapes.add_plain, Nat.zero_add, cell_of_row _ _ j _ _ (0, 0) (heap_alloc_new w _)]
      simpa [nv] using hu)
    (fun u hu => by simp at hu; subst hu; rfl) (by unfold maxLen; omega) (by
      have : (L.length + 1) * bytes ≤ (L.length + 1) * 8 := Nat.mul_le_mul_left _ hsm
      omega) (by simp; omega) (by decide)
  refine ⟨B', d', w2, r, ⟨by simpa using o, fun e => by simp at e⟩, ?_, fun i hi => ?_⟩
  · exact ((Only.refl (fun i => blk A = some i) w).alloc _).trans on (fun i hi h => h)
  · rcases kin i hi with h1 | h1
    · exact .inl h1
    · exact .inr (by simp at h1; omega)
end
end Go.Proofs.Ytgkdabllaankcaa
/- Out of a log of the program; SameInts. No condition. -/
namespace Go.Proofs.Ytgkdabllaankcaa
open Go.RowKit
set_option linter.unusedVariables false

theorem ntInt : NT 22 3 .i64 8 := ⟨Try.underlying22, by kernel_rfl, by decide⟩
/-- what Out returns: a new row of these numbers; nothing that was there has turned -/
def AlOut (L : List Nat) (w : World) (e : Ending) (w' : World) : Prop := ∃ A c, e = .returned (.slice A L.length c) ∧ NOwn 3 .i64 w' w.heap.size A c L ∧ Below w.heap.size w w'
theorem range_next (f : Nat → Nat) (i : Nat) : (List.range (i + 1)).map f = (List.range i).map f ++ [f i] := by rw [List.range_succ, List.map_append, List.map_singleton]
section
variable {w : World} {F : Nat → Prop} {b : Nat} {R : Rl} {s : Lg}
set_option maxRecDepth 20000 in
set_option maxHeartbeats 400000 in
theorem alOut_calls (h : AlP w F b R s) : Calls Try.prog 50 #[.pointer (some ⟨b, 6, none⟩)] w (AlOut s.out w) := by
  have ok := h.2
  have hm1 : 1 ≤ s.m := by have := ok.m8; omega
  have hm2 := ok.m9
  have hnm := Lg.n_lt ok
  have hol := Lg.out_len s
  have e0 : (s.f + 0) % s.m = s.f := Nat.mod_eq_of_lt ok.f9
  have NUM := Lib.hid (show ∀ i, i ≤ s.n → ((s.f + i) % s.m = s.nx ↔ i = s.n) from fun i hi => by
    rw [Lg.num_ds ok (by omega) (Lg.nx_lt ok), (Lg.num_ds ok hnm (Lg.nx_lt ok)).1 rfl]
    omega)
  have NX := Lib.hid (fun (i : Nat) v => alNext_calls ((s.f + i) % s.m) s.m v (Nat.mod_lt _ (by omega)) hm1 hm2)
  have ES := Lib.hid (show ∀ i, ((s.f + i) % s.m + 1) % s.m = (s.f + (i + 1)) % s.m from fun i => by rw [Nat.mod_add_mod, Nat.add_assoc])
  have EO := Lib.hid (show s.out = (List.range s.n).map fun i => (s.f + i) % s.m from rfl)
  obtain ⟨⟨A0, c0', vs, hb, _⟩, _⟩ := h
  obtain ⟨c0, c1, c2, c3, c4, c5⟩ := alcell hb
  have hlt := lt_of_block hb
  have C0 := Lib.hid c0
  have C4 := Lib.hid c4
  have hnb : s.n ≤ 100000 := by omega
  clear hb c0 c1 c2 c4 c5 ok
  generalize s.out = O at *
  generalize s.nx = x at *
  generalize s.n = n at *
  generalize hM : s.m = M at *
  generalize hf : s.f = f at *
  clear hM hf
  have C3 : w.cell? ⟨b, 9, none⟩ = some (.int .i64 (((f + 0) % M : Nat) : Int)) := by rw [e0]; exact c3
  clear c3 e0
  go_enter Try.func50, Try.ntmps50
  go_wp2_with fail
  go_loopg [3, 4] n (fun kx s3 s4 wr => ∃ (i : Nat) (A : Option Addr) (c y : Nat), s3 = .slice A i c ∧ s4 = .int .i64 (y : Int) ∧ i ≤ n ∧ n - i ≤ kx ∧ Aside (y = (f + i) % M) ∧ Aside (NOwn 3 .i64 wr w.heap.size A c ((List.range i).map fun i => (f + i) % M)) ∧ Aside (Below w.heap.size w wr))
  case atStart => exact ⟨0, none, 0, (f + 0) % M, rfl, rfl, by omega, by omega, rfl, NOwn.nil _ _ _ _, Below.refl _ _⟩
  case round =>
    clear C3
    obtain ⟨i, A, c, y, rfl, rfl, hi, hkx, Hy, HN, HB⟩ := hrel
    have hll : ((List.range i).map fun i => (f + i) % M).length = i := by simp
    have k4 := (HB.out.cell (p := ⟨b, 10, none⟩) hlt).trans C4.out
    have nu := NUM.out i hi
    by_cases hin : i = n
    · subst hin
      have hyx : (y : Int) = (x : Int) := by rw [Hy.out, nu.2 rfl]
      have g0 : ((y : Int) != (x : Int)) = false := by rw [hyx]; simp
      have FI := Lib.hid (show AlOut O w (.returned (.slice A i c)) wr from by
        unfold AlOut
        rw [EO.out]
        exact ⟨A, c, by rw [hll], HN.out, HB.out⟩)
      clear hll nu HN HB EO ES NX NUM hyx hol
      go_wp2
      go_ret
      exact FI.out
    · have hlt' : i < n := by omega
      have g0 : ((y : Int) != (x : Int)) = true := by
        have : ¬ (f + i) % M = x := fun e => hin (nu.1 e)
        rw [← Hy.out] at this
        simp; omega
      obtain ⟨A', c', w', r, own, on, kin⟩ := HN.out.app ntInt HB.out.size (by rw [hll]; omega) y
      rw [hll] at r
      have bel : Below w.heap.size w w' := HB.out.trans (on.below (fun k hk => (HN.out.blk_ge k hk).1) HB.out.size)
      have NI := fun v => NX.out i v
      rw [← Hy.out] at NI
      have hy2 : (y + 1) % M = (f + (i + 1)) % M := by rw [Hy.out]; exact ES.out i
      have k0 := (bel.cell (p := ⟨b, 6, none⟩) hlt).trans C0.out
      have FI := Lib.hid (show NOwn 3 .i64 w' w.heap.size A' c' ((List.range (i + 1)).map fun i => (f + i) % M) from by rw [range_next, ← Hy.out]; exact own)
      have B2 : Aside (Below w.heap.size w w') := bel
      have HY2 := Lib.hid hy2
      clear hll nu HN HB EO ES NX NUM hin bel own on kin hy2 Hy
      generalize (y + 1) % M = y' at *
      go_wp2_with (first | (at_builtin; refine Lib.wpList_append_run _ rfl _ _ _ _ rfl _ _ rfl rfl _ _ (r _) ?_) | fail)
      refine (NI _).mono ?_
      rintro e w9 ⟨rfl, rfl⟩
      go_wp2
      go_roundg (n - (i + 1))
      case measure => omega
      case rel => exact ⟨i + 1, A', c', y', by go_num, rfl, by omega, Nat.le_refl _, HY2.out, FI.out, B2⟩
end
end Go.Proofs.Ytgkdabllaankcaa
/- pump and retransmit of an end of a session. Condition: room for the outputs. -/
namespace Go.Proofs.Ytgkdabllaankcaa
open Go.RowKit
set_option linter.unusedVariables false

namespace Aq
/-- what pumping leaves alone, and how many outputs it adds at most -/
theorem pumpStep_eq (s : Aq) (hs : s.lg.stop = false) : s.pumpStep.lg = s.lg.next ∧ s.pumpStep.os.length = s.os.length + 1 := by
  unfold pumpStep
  split
  · exact ⟨rfl, by simp [Aq.start, Aq.sendM, Aq.put, Aq.setLg]⟩
  · exact ⟨rfl, by simp [Aq.sendM, Aq.put, Aq.setLg]⟩
theorem next_n {l : Lg} (hs : l.stop = false) : l.next.n = l.n + 1 ∧ l.next.l = l.l := by unfold Lg.next; rw [if_neg (by simp [hs])]; exact ⟨rfl, rfl⟩
theorem pumpN_stop (f : Nat) {s : Aq} (hs : s.lg.stop = true) : pumpN f s = s := by
  cases f
  · rfl
  · unfold pumpN; rw [if_pos hs]
theorem pump_go {s : Aq} (ok : s.lg.Ok) (hs : s.lg.stop = false) : s.pump = s.pumpStep.pump := by
  obtain ⟨e1, e2⟩ := Lg.stop_false hs
  have hn := ok.nl
  obtain ⟨e3, e4⟩ := next_n hs
  have e5 := (pumpStep_eq s hs).1
  unfold pump
  rw [e5, e3, e4, show s.lg.l.length - s.lg.n = (s.lg.l.length - (s.lg.n + 1)) + 1 by omega]
  show pumpN _ _ = _
  rw [pumpN, if_neg (by simp [hs])]
theorem pump_stop {s : Aq} (hs : s.lg.stop = true) : s.pump = s := pumpN_stop _ hs
end Aq
section
variable {w : World} {F : Nat → Prop} {b : Nat} {s : Aq}
/-- what Next of the log gives -/
def AqNexted (F : Nat → Prop) (b : Nat) (s : Aq) (w : World) (e : Ending) (w' : World) : Prop :=
  ∃ A c, e = .returned (.tuple #[.int .i64 (s.lg.nextN : Int), .slice A s.lg.nextX.length c, .bool (!s.lg.stop)]) ∧ Rd w' A s.lg.nextX ∧ AqTurn F b (s.setLg s.lg.next) w w'
theorem aqLogNext_calls (h : AqP w F b s) : Calls Try.prog 46 #[.pointer (some ⟨b, 6, none⟩)] w (AqNexted F b s w) := by
  obtain ⟨FL, R, L, hFL, conv⟩ := h.log
  refine (alNext_calls' L).mono ?_
  rintro e w' ⟨A, c, rfl, ow, L1, o1⟩
  exact ⟨A, c, rfl, ow.rd, conv w' _ (AlTurn.of_same L1 o1 L.lt) h.2.next⟩
theorem nextX_small (ok : s.Ok) : s.lg.nextX.length ≤ 1000 := by
  unfold Lg.nextX
  split
  · exact Nat.zero_le _
  · rw [List.getD_eq_getElem?_getD]
    rcases hx : s.lg.l[s.lg.n]? with _ | x
    · exact Nat.zero_le _
    · exact ok.small x (List.mem_of_getElem? hx)
set_option maxRecDepth 20000 in
set_option maxHeartbeats 1000000 in
theorem aqPump_calls (h : AqP w F b s) (hf : s.os.length + (s.lg.W - s.lg.n) ≤ 1000000) : Calls Try.prog 26 #[.pointer (some ⟨b, 0, none⟩)] w fun r w' => r = .returned (.tuple #[]) ∧ AqTurn F b s.pump w w' := by
  have H0 : Aside (∃ s' : Aq, AqTurn F b s' w w ∧ s'.pump = s.pump ∧ s'.os.length + (s'.lg.W - s'.lg.n) ≤ 1000000 ∧ s'.lg.l.length - s'.lg.n = s.lg.l.length - s.lg.n) := ⟨s, AqTurn.refl h, rfl, hf, rfl⟩
  clear h hf
  generalize s.pump = T at *
  generalize s.lg.l.length - s.lg.n = K at *
  go_enter Try.func26, Try.ntmps26
  go_wp2_with fail
  go_loopg [2, 3, 4] (K + 1) (fun kx s2 s3 s4 wr => ∃ k : Nat, k + 1 = kx ∧ Aside (∃ s' : Aq, AqTurn F b s' w wr ∧ s'.pump = T ∧ s'.os.length + (s'.lg.W - s'.lg.n) ≤ 1000000 ∧ s'.lg.l.length - s'.lg.n = k))
  case atStart => exact ⟨K, rfl, H0.out⟩
  case round =>
    clear H0
    obtain ⟨k, rfl, HO⟩ := hrel
    obtain ⟨s', T1, hT, hfit, hk⟩ := HO.out
    clear HO
    have ok := T1.1.2
    cases hs : s'.lg.stop
    · have NX : Calls Try.prog 46 #[.pointer (some ⟨b, 6, none⟩)] wr (fun e w' => ∃ A c, e = .returned (.tuple #[.int .i64 (s'.lg.nextN : Int), .slice A s'.lg.nextX.length c, .bool true]) ∧ Rd w' A s'.lg.nextX ∧ AqTurn (more F w wr) b (s'.setLg s'.lg.next) wr w') :=
        (aqLogNext_calls T1.1).mono (by rintro e w' ⟨A, c, rfl, h⟩; exact ⟨A, c, by rw [hs]; rfl, h⟩)
      obtain ⟨e1, e2⟩ := Lg.stop_false hs
      obtain ⟨e3, e4⟩ := Aq.next_n hs
      obtain ⟨e5, e6⟩ := Aq.pumpStep_eq s' hs
      have enl := ok.lg.nl
      have eW : s'.lg.next.W = s'.lg.W := by unfold Lg.next; split <;> rfl
      have hx := nextX_small ok
      have hk1 : 1 ≤ k := by omega
      have hT2 : s'.pumpStep.pump = T := (Aq.pump_go ok.lg hs).symm.trans hT
      have hR : s'.pumpStep.os.length + (s'.pumpStep.lg.W - s'.pumpStep.lg.n) ≤ 1000000 := by rw [e5, e6, e3, eW]; omega
      have hK : s'.pumpStep.lg.l.length - s'.pumpStep.lg.n = k - 1 := by rw [e5, e4, e3]; omega
      have HF := Lib.hid (show s'.pumpStep.pump = T ∧ s'.pumpStep.os.length + (s'.pumpStep.lg.W - s'.pumpStep.lg.n) ≤ 1000000 ∧ s'.pumpStep.lg.l.length - s'.pumpStep.lg.n = k - 1 ∧ s'.pumpStep = (if ((s'.setLg s'.lg.next).sendM s'.lg.nextN s'.lg.nextX false).lf = 0 then ((s'.setLg s'.lg.next).sendM s'.lg.nextN s'.lg.nextX false).start else (s'.setLg s'.lg.next).sendM s'.lg.nextN s'.lg.nextX false) from ⟨hT2, hR, hK, rfl⟩)
      have hos : (s'.setLg s'.lg.next).os.length ≤ 1000000 := by show s'.os.length ≤ 1000000; omega
      have HT1 := Lib.hid T1
      clear hT2 hR hK e1 e2 e3 e4 e5 e6 enl eW hT hfit hk ok T1 hs
      generalize s'.setLg s'.lg.next = s2 at *
      generalize s'.lg.nextN = N at *
      generalize s'.lg.nextX = X at *
      generalize hs3 : s2.sendM N X false = s3 at *
      go_wp2_with fail
      refine NX.mono ?_
      rintro e w1 ⟨A, c, rfl, rd, T2⟩
      have T12 := HT1.out.trans T2
      have SM := aqSendM_calls T12.1 hos N A c X rd (by omega) false
      rw [hs3] at SM
      have HT12 := Lib.hid T12
      clear T2 NX HT1 T12 rd
      go_wp2_with fail
      refine SM.mono ?_
      rintro e w2 ⟨rfl, T3⟩
      have T4 := HT12.out.trans T3
      have c17 := T4.1.c17
      have HT4 := Lib.hid T4
      have ST := aqStart_calls T4.1
      clear SM T3 T4 HT12 hos hx
      by_cases hl : s3.lf = 0
      · have g : ((s3.lf : Int) == 0) = true := by rw [hl]; rfl
        have HS := Lib.hid (show s'.pumpStep = s3.start by rw [HF.out.2.2.2, if_pos hl])
        clear hl hs3
        generalize s3.lf = l at *
        go_wp2_with fail
        refine ST.mono ?_
        rintro e w3 ⟨rfl, T5⟩
        have HT6 := Lib.hid (HT4.out.trans T5)
        clear ST T5 HT4
        go_wp2
        go_roundg k
        case measure => omega
        case rel => exact ⟨k - 1, by omega, s'.pumpStep, by rw [HS.out]; exact HT6.out, HF.out.1, HF.out.2.1, HF.out.2.2.1⟩
      · have g : ((s3.lf : Int) == 0) = false := by simp; omega
        have HS := Lib.hid (show s'.pumpStep = s3 by rw [HF.out.2.2.2, if_neg hl])
        clear hl hs3 ST
        generalize s3.lf = l at *
        go_wp2
        go_roundg k
        case measure => omega
        case rel => exact ⟨k - 1, by omega, s'.pumpStep, by rw [HS.out]; exact HT4.out, HF.out.1, HF.out.2.1, HF.out.2.2.1⟩
    · have NX : Calls Try.prog 46 #[.pointer (some ⟨b, 6, none⟩)] wr (fun e w' => ∃ A c, e = .returned (.tuple #[.int .i64 (s'.lg.nextN : Int), .slice A s'.lg.nextX.length c, .bool false]) ∧ AqTurn F b T w w') :=
        (aqLogNext_calls T1.1).mono (by
          rintro e w' ⟨A, c, rfl, h, T2⟩
          refine ⟨A, c, by rw [hs]; rfl, ?_⟩
          have en : s'.lg.next = s'.lg := by unfold Lg.next; rw [if_pos hs]
          rw [en] at T2
          rw [← hT, Aq.pump_stop hs]
          exact T1.trans T2)
      clear T1 hT hfit hk ok hs
      generalize s'.lg.nextN = N at *
      generalize s'.lg.nextX.length = X at *
      go_wp2_with fail
      refine NX.mono ?_
      rintro e w1 ⟨A, c, rfl, T2⟩
      have HT := Lib.hid T2
      clear T2 NX
      go_wp2
      refine bodyPost_ret (results_none rfl _ _ _) rfl ?_
      exact ⟨rfl, HT.out⟩
/-- what Body of the log gives -/
theorem aqBody_calls (h : AqP w F b s) (k : Int) (hk : I64 k) : Calls Try.prog 51 #[.pointer (some ⟨b, 6, none⟩), .int .i64 k] w fun e w' => ∃ A c, e = .returned (.tuple #[.slice A (s.lg.body k).length c, .bool (s.lg.has k)]) ∧ Rd w' A (s.lg.body k) ∧ Below w.heap.size w w' := by
  obtain ⟨FL, R, L, hFL, conv⟩ := h.log
  refine (alBody_calls L k hk).mono ?_
  rintro e w' ⟨A, c, rfl, ow, be⟩
  exact ⟨A, c, rfl, ow.rd, be⟩
theorem aqOut_calls (h : AqP w F b s) : Calls Try.prog 50 #[.pointer (some ⟨b, 6, none⟩)] w (AlOut s.lg.out w) := by
  obtain ⟨FL, R, L, hFL, conv⟩ := h.log
  exact alOut_calls L
theorem body_small (ok : s.Ok) (k : Int) : (s.lg.body k).length ≤ 1000 := by
  unfold Lg.body
  split
  · rw [List.getD_eq_getElem?_getD]
    rcases hx : s.lg.l[s.lg.ds k.toNat]? with _ | x
    · exact Nat.zero_le _
    · exact ok.small x (List.mem_of_getElem? hx)
  · exact Nat.zero_le _
end
end Go.Proofs.Ytgkdabllaankcaa
/- retransmit of an end of a session. Condition: room for the outputs. -/
namespace Go.Proofs.Ytgkdabllaankcaa
open Go.RowKit
set_option linter.unusedVariables false

namespace Aq
theorem retrStep_eq (s : Aq) (n : Nat) : (s.retrStep n).lg = s.lg ∧ (s.retrStep n).os.length = s.os.length + 1 := ⟨rfl, by simp [retrStep, sendM, put, start]⟩
theorem drop_step {L : List Nat} {i : Nat} (hi : i < L.length) : L.drop i = L.getD i 0 :: L.drop (i + 1) := by
  rw [List.drop_eq_getElem_cons hi]
  simp [hi]
end Aq
section
variable {w : World} {F : Nat → Prop} {b : Nat} {s : Aq}
set_option maxRecDepth 20000 in
set_option maxHeartbeats 1000000 in
theorem aqRetr_calls (h : AqP w F b s) (hf : s.os.length + s.lg.n ≤ 1000000) : Calls Try.prog 29 #[.pointer (some ⟨b, 0, none⟩)] w fun r w' => r = .returned (.tuple #[]) ∧ AqTurn F b s.retr w w' := by
  have OC := aqOut_calls h
  have hol := Lg.out_len s.lg
  have hHP := Lib.hid h
  have hT : s.retrL s.lg.out = s.retr := rfl
  have hsm : ∀ x ∈ s.lg.out, x < 32768 := fun x hx => by
    unfold Lg.out at hx
    obtain ⟨i, _, rfl⟩ := List.mem_map.1 hx
    have := h.2.lg.m8
    have := h.2.lg.m9
    exact Nat.lt_of_lt_of_le (Nat.mod_lt _ (by omega)) (by omega)
  have HSM := Lib.hid hsm
  generalize s.lg.out = L at *
  generalize s.retr = T at *
  have hfl : s.os.length + L.length ≤ 1000000 := by omega
  have HFL := Lib.hid hfl
  have hT2 := Lib.hid hT
  clear h hT hsm hol hf
  have hln : L.length ≤ 1000000 := by omega
  clear hfl
  go_enter Try.func29, Try.ntmps29
  go_wp2_with fail
  refine OC.mono ?_
  rintro e w1 ⟨A, c, rfl, row, be⟩
  have HBE := Lib.hid be
  have HROW := Lib.hid row
  have HLT := Lib.hid (show ∀ k, blk A = some k → ¬ F k from fun k hk hF => by have := hHP.out.lt k hF; have := (row.blk_ge k hk).1; omega)
  have H0 : Aside (∃ s' : Aq, AqTurn F b s' w1 w1 ∧ s'.lg = s.lg ∧ s'.retrL (L.drop 0) = T ∧ s'.os.length = s.os.length + 0) := ⟨s, AqTurn.refl (hHP.out.below be), rfl, by rw [List.drop_zero]; exact hT2.out, rfl⟩
  clear OC row be
  generalize hn : L.length = n at *
  go_wp2_with fail
  go_loopg [11] n (fun kx s11 wr => ∃ i : Nat, s11 = .int .i64 (i : Int) ∧ i ≤ n ∧ n - i ≤ kx ∧ Aside (∃ s' : Aq, AqTurn F b s' w1 wr ∧ s'.lg = s.lg ∧ s'.retrL (L.drop i) = T ∧ s'.os.length = s.os.length + i))
  case atStart => exact ⟨0, rfl, Nat.zero_le _, by omega, H0.out⟩
  case round =>
    clear H0
    obtain ⟨i, rfl, hi, hkx, HO⟩ := hrel
    obtain ⟨s', T1, hlg, hT, hos⟩ := HO.out
    clear HO
    by_cases hin : i = n
    · have hTs : s' = T := by rw [← hT, List.drop_eq_nil_of_le (by omega)]; rfl
      have FI := Lib.hid (show AqTurn F b T w wr from by rw [← hTs]; exact T1.after HBE.out hHP.out.lt)
      subst hin
      clear T1 hlg hT hos hTs
      go_wp2
      go_end0
      exact ⟨rfl, FI.out⟩
    · have hlt : i < n := by omega
      have hd := Aq.drop_step (L := L) (i := i) (by omega)
      rw [hd] at hT
      have hx : L.getD i 0 < 32768 := HSM.out _ (by
        have h9 : i < L.length := by omega
        simp [h9])
      obtain ⟨g, rfl, _, _, hlc, hcell, _⟩ := (HROW.out.only T1.on HLT.out).parts (by intro e; rw [e] at hn; simp at hn; omega)
      have k1 := hcell i (by omega)
      rw [Nat.zero_add] at k1
      have BC := aqBody_calls T1.1 (L.getD i 0 : Nat) (by unfold I64; omega)
      have hbs := body_small T1.ok (L.getD i 0 : Nat)
      have HT1 := Lib.hid T1
      have HFF := Lib.hid (show (s'.retrStep (L.getD i 0)).retrL (L.drop (i + 1)) = T ∧ (s'.retrStep (L.getD i 0)).lg = s.lg ∧ (s'.retrStep (L.getD i 0)).os.length = s.os.length + (i + 1) from ⟨hT, (Aq.retrStep_eq s' _).1.trans hlg, by rw [(Aq.retrStep_eq s' _).2]; omega⟩)
      have hos1 : s'.os.length ≤ 1000000 := by have := HFL.out; omega
      have hstep : (s'.sendM (L.getD i 0 : Nat) (s'.lg.body (L.getD i 0 : Nat)) false).start = s'.retrStep (L.getD i 0) := rfl
      have HST := Lib.hid hstep
      clear hT hlg hos hd T1 hcell hlc hstep
      generalize s'.retrStep (L.getD i 0) = s4 at *
      generalize s'.lg.has (L.getD i 0 : Nat) = q at *
      generalize s'.lg.body (L.getD i 0 : Nat) = X at *
      generalize hs3 : s'.sendM (L.getD i 0 : Nat) X false = s3 at *
      generalize L.getD i 0 = x at *
      go_wp2_with fail
      refine BC.mono ?_
      rintro e w2 ⟨B, d, rfl, rd, be2⟩
      have SM := aqSendM_calls (HT1.out.1.below be2) hos1 (x : Int) B d X rd (by omega) false
      rw [hs3] at SM
      have HBE2 := Lib.hid be2
      clear BC rd be2
      go_wp2_with fail
      refine SM.mono ?_
      rintro e w3 ⟨rfl, T3⟩
      have T4 := HT1.out.trans (T3.after HBE2.out HT1.out.1.lt)
      have HT4 := Lib.hid T4
      have ST := aqStart_calls T4.1
      clear T3 T4 SM HBE2 HT1
      go_wp2_with fail
      refine ST.mono ?_
      rintro e w4 ⟨rfl, T5⟩
      have HT5 := Lib.hid (show AqTurn F b s4 w1 w4 from by rw [← HST.out]; exact HT4.out.trans T5)
      clear ST T5 HT4 hs3 HST
      go_wp2
      go_roundg (n - (i + 1))
      case measure => omega
      case rel => exact ⟨i + 1, by go_num, by omega, Nat.le_refl _, s4, HT5.out, HFF.out.2.1, HFF.out.1, HFF.out.2.2⟩
end
end Go.Proofs.Ytgkdabllaankcaa

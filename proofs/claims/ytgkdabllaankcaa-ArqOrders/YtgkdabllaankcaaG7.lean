/- Package arq walked, part 7 of 15 (merged texts: AqTake, AqReq, AqExch, ScopeLabels). No condition. -/
import Derived.Test.YtgkdabllaankcaaG6
import Derived.Deep.RegionHeld
import Derived.Scope
import Derived.WalkMore
/- receive of an end of a session. Condition: room for the outputs and the messages; the message reads as its octets. -/
namespace Go.Proofs.Ytgkdabllaankcaa
open Go.RowKit
set_option linter.unusedVariables false

/-- the cells of what was received -/
def rvc (t k ns nr : Int) (p : Bool) (X : Option Addr) (n e : Nat) : Array Value := #[.int .i64 t, .int .i64 k, .int .i64 ns, .int .i64 nr, .bool p, .slice X n e]
def rvv (t k ns nr : Int) (p : Bool) (X : Option Addr) (n e : Nat) : Value := .agg (rvc t k ns nr p X n e)
/-- it lies in a box of its own -/
def rvW (w : World) (t k ns nr : Int) (p : Bool) (X : Option Addr) (n e : Nat) : World := w.alloc (.cells (rvc t k ns nr p X n e) 75)
section
variable {w : World} {F : Nat → Prop} {b : Nat} {s : Aq} {t k ns nr : Int} {p : Bool} {X : Option Addr} {n e : Nat}
theorem rv_below : Below w.heap.size w (rvW w t k ns nr p X n e) := (Below.refl _ _).alloc (Nat.le_refl _) _
theorem rv_size : (rvW w t k ns nr p X n e).heap.size = w.heap.size + 1 := by unfold rvW; simp
/-- the box stands in whatever world leaves it alone -/
theorem rv_cells {V : World} (hV : V.heap[w.heap.size]? = some (.cells (rvc t k ns nr p X n e) 75 (0, 0))) :
    V.cell? ⟨w.heap.size, 0, none⟩ = some (.int .i64 t) ∧ V.cell? ⟨w.heap.size, 1, none⟩ = some (.int .i64 k) ∧ V.cell? ⟨w.heap.size, 2, none⟩ = some (.int .i64 ns) ∧ V.cell? ⟨w.heap.size, 3, none⟩ = some (.int .i64 nr) ∧ V.cell? ⟨w.heap.size, 4, none⟩ = some (.bool p) ∧ V.cell? ⟨w.heap.size, 5, none⟩ = some (.slice X n e) := by
  refine ⟨?_, ?_, ?_, ?_, ?_, ?_⟩ <;> rw [cell_of_row V _ _ _ _ (0, 0) hV] <;> rfl
theorem rv_here : (rvW w t k ns nr p X n e).heap[w.heap.size]? = some (.cells (rvc t k ns nr p X n e) 75 (0, 0)) := heap_alloc_new w _
theorem rv_keep {V : World} (hlt : ∀ i, F i → i < w.heap.size) (on : Only F (rvW w t k ns nr p X n e) V) : V.heap[w.heap.size]? = some (.cells (rvc t k ns nr p X n e) 75 (0, 0)) :=
  (on.block w.heap.size (by rw [rv_size]; omega) (fun h => by have := hlt _ h; omega)).trans rv_here
/-- what Put of the order gives -/
theorem aqOrdPut_calls (h : AqP w F b s) (hall : s.od.all ≤ 999999) (n : Int) (hn : I64 n) (X : Option Addr) (c9 : Nat) (x : List UInt8) (hr : Rd w X x) (hx : x.length ≤ 1048576) :
    Calls Try.prog 83 #[.pointer (some ⟨b, 12, none⟩), .int .i64 n, .slice X x.length c9] w fun r w' => r = .returned (.int .i64 (s.od.putN n x)) ∧ AqTurn F b (s.setOd (s.od.put n x)) w w' := by
  obtain ⟨FO, R, O, hFO, conv⟩ := h.ord
  refine (aoPut_calls O hall n hn X c9 x hr hx).mono ?_
  rintro r w' ⟨rfl, T⟩
  exact ⟨rfl, conv w' _ T (h.2.setOd (h.2.od.put n hx) (Aq.put_m _ _ _))⟩
theorem aqGap_calls (h : AqP w F b s) : Calls Try.prog 84 #[.pointer (some ⟨b, 12, none⟩)] w fun e w' => e = .returned (.bool s.od.gap) ∧ w' = w := by
  obtain ⟨FO, R, O, _⟩ := h.ord
  exact aoGap_calls O
set_option maxRecDepth 20000 in
set_option maxHeartbeats 2000000 in
theorem aqTake_calls (h : AqP w F b s) (hf : s.os.length ≤ 1000000) (hall : s.od.all ≤ 999999) (hns : I64 ns) (x : List UInt8) (hr : Rd w X x) (hx : x.length ≤ 1048576) :
    Calls Try.prog 76 #[.pointer (some ⟨b, 0, none⟩), rvv t k ns nr p X x.length e] w fun r w' => r = .returned (.tuple #[]) ∧ AqTurn F b (s.take ns x p) w w' := by
  obtain ⟨W0, hW0⟩ : ∃ W0, rvW w t k ns nr p X x.length e = W0 := ⟨_, rfl⟩
  have be0 : Below w.heap.size w W0 := by rw [← hW0]; exact rv_below
  have h0 := h.below be0
  have hlt := h.lt
  have kp : ∀ V, Only F W0 V → V.heap[w.heap.size]? = some (.cells (rvc t k ns nr p X x.length e) 75 (0, 0)) := fun V on => rv_keep hlt (by rw [hW0]; exact on)
  obtain ⟨d0, d1, d2, d3, d4, d5⟩ := rv_cells (kp W0 (Only.refl _ _))
  have PC : Calls Try.prog 83 #[.pointer (some ⟨b, 12, none⟩), .int .i64 ns, .slice X x.length e] W0.drew fun r w' => r = .returned (.int .i64 (s.od.putN ns x)) ∧ AqTurn F b (s.setOd (s.od.put ns x)) W0 w' := by
    refine (aqOrdPut_calls (show AqP W0.drew F b s from h0.drewN 1) hall ns hns X e x (hr.below be0).drew hx).mono ?_
    rintro r w' ⟨rfl, T⟩
    exact ⟨rfl, AqTurn.from_drewN (n := 1) T⟩
  have KB := Lib.hid (show ∀ V, Only F W0 V → V.cell? ⟨w.heap.size, 2, none⟩ = some (.int .i64 ns) ∧ V.cell? ⟨w.heap.size, 5, none⟩ = some (.slice X x.length e) from fun V on => ⟨(rv_cells (kp V on)).2.2.1, (rv_cells (kp V on)).2.2.2.2.2⟩)
  have K0 := Lib.hid (show W0.drew.cell? ⟨w.heap.size, 2, none⟩ = some (.int .i64 ns) ∧ W0.drew.cell? ⟨w.heap.size, 5, none⟩ = some (.slice X x.length e) from ⟨d2, d5⟩)
  clear d0 d1 d2 d3 d4 d5
  have hput : (s.od.putN ns x) = s.od.putN ns x := rfl
  -- what comes behind Put
  have HB := Lib.hid (show ∀ w2, AqTurn F b (s.recvd ns x) W0 w2 → w2.cell? ⟨b, 19, none⟩ = some (.bool (s.recvd ns x).rj) ∧ w2.frozen? ⟨b, 19, none⟩ = false ∧ w2.cell? ⟨w.heap.size, 4, none⟩ = some (.bool p) ∧
      (Calls Try.prog 84 #[.pointer (some ⟨b, 12, none⟩)] w2 fun e w' => e = .returned (.bool (s.recvd ns x).od.gap) ∧ w' = w2) ∧
      (Calls Try.prog 33 #[.pointer (some ⟨b, 0, none⟩), .int .i64 1, .bool p] w2 fun r w' => r = .returned (.tuple #[]) ∧ AqTurn F b ((s.recvd ns x).send 1 p) w w') ∧
      (Calls Try.prog 33 #[.pointer (some ⟨b, 0, none⟩), .int .i64 2, .bool false] (w2.setCell ⟨b, 19, none⟩ (.bool true)) fun r w' => r = .returned (.tuple #[]) ∧ AqTurn F b (((s.recvd ns x).setRj true).send 2 false) w w') from fun w2 T => by
    refine ⟨T.1.c19, T.1.z 19, (rv_cells (kp w2 T.on)).2.2.2.2.1, aqGap_calls T.1, (aqSend_calls T.1 hf 1 p).mono ?_, (aqSend_calls (T.thenRj true).1 hf 2 false).mono ?_⟩
    · rintro r w' ⟨rfl, T'⟩
      exact ⟨rfl, (T.trans T').after be0 hlt⟩
    · rintro r w' ⟨rfl, T'⟩
      exact ⟨rfl, ((T.thenRj true).trans T').after be0 hlt⟩)
  have HP := Lib.hid (show ∀ w1, AqTurn F b (s.setOd (s.od.put ns x)) W0 w1 → w1.cell? ⟨b, 19, none⟩ = some (.bool s.rj) ∧ w1.frozen? ⟨b, 19, none⟩ = false ∧ (0 < s.od.putN ns x → AqTurn F b (s.recvd ns x) W0 (w1.setCell ⟨b, 19, none⟩ (.bool false))) ∧ (¬ 0 < s.od.putN ns x → AqTurn F b (s.recvd ns x) W0 w1) from fun w1 T => by
    refine ⟨T.1.c19, T.1.z 19, fun hp => ?_, fun hp => ?_⟩
    · have := T.thenRj false
      unfold Aq.recvd
      rw [if_pos hp]
      exact this
    · unfold Aq.recvd
      rw [if_neg hp]
      exact T)
  have hans : s.take ns x p = (if (s.recvd ns x).od.gap = true ∧ (s.recvd ns x).rj = false then ((s.recvd ns x).setRj true).send 2 false else (s.recvd ns x).send 1 p) := rfl
  rw [hans]
  clear h h0 hr kp hans hput be0 hf hall
  unfold rvv rvc
  unfold rvW rvc at hW0
  generalize s.recvd ns x = s2 at *
  generalize s.setOd (s.od.put ns x) = s1 at *
  generalize s.od.putN ns x = P at *
  generalize s.rj = r0 at *
  by_cases hp : 0 < P
  · have g0 : decide ((0 : Int) < P) = true := decide_eq_true hp
    have HQ := Lib.hid (show ∀ w1, AqTurn F b s1 W0 w1 → _ from fun w1 T => (HP.out w1 T).2.2.1 hp)
    have HZ := Lib.hid (show ∀ w1, AqTurn F b s1 W0 w1 → _ from fun w1 T => And.intro (HP.out w1 T).1 (HP.out w1 T).2.1)
    clear HP
    cases hg : s2.od.gap
    · rw [if_neg (by simp)]
      rw [hg] at HB
      go_enter Try.func76, Try.ntmps76
      go_wp2_with fail
      go_region_held (fun v => v.cell? ⟨w.heap.size, 2, none⟩ = some (.int .i64 ns) ∧ v.cell? ⟨w.heap.size, 5, none⟩ = some (.slice X x.length e)) (first | (with_reducible exact K0.out) | (with_reducible exact K1.out))
        ((go_at_call 83; refine PC.mono ?_; rintro e1 w1 ⟨rfl, T⟩; have K1 := Lib.hid (KB.out w1 T.on)))
      clear PC K0 K1
      obtain ⟨k19, z19⟩ := HZ.out w1 T
      obtain ⟨W2, hW2⟩ : ∃ W2, w1.setCell ⟨b, 19, none⟩ (.bool false) = W2 := ⟨_, rfl⟩
      obtain ⟨f19, y19, fb, GC, SC, -⟩ := HB.out W2 (by rw [← hW2]; exact HQ.out w1 T)
      clear T HB HQ HZ KB
      go_wp2_with fail
      refine GC.mono ?_
      rintro e2 w3 ⟨rfl, hv⟩
      obtain rfl := hv.symm
      go_wp2_with fail
      refine SC.mono ?_
      rintro e3 w4 ⟨rfl, T⟩
      have FI := Lib.hid T
      clear T SC GC
      go_wp2
      first | go_end0 | (refine bodyPost_ret (results_none rfl _ _ _) rfl ?_)
      exact ⟨rfl, FI.out⟩
    · cases hj : s2.rj
      · rw [if_pos ⟨rfl, rfl⟩]
        rw [hg, hj] at HB
        go_enter Try.func76, Try.ntmps76
        go_wp2_with fail
        go_region_held (fun v => v.cell? ⟨w.heap.size, 2, none⟩ = some (.int .i64 ns) ∧ v.cell? ⟨w.heap.size, 5, none⟩ = some (.slice X x.length e)) (first | (with_reducible exact K0.out) | (with_reducible exact K1.out))
          ((go_at_call 83; refine PC.mono ?_; rintro e1 w1 ⟨rfl, T⟩; have K1 := Lib.hid (KB.out w1 T.on)))
        clear PC K0 K1
        obtain ⟨k19, z19⟩ := HZ.out w1 T
        obtain ⟨W2, hW2⟩ : ∃ W2, w1.setCell ⟨b, 19, none⟩ (.bool false) = W2 := ⟨_, rfl⟩
        obtain ⟨f19, y19, fb, GC, -, SC⟩ := HB.out W2 (by rw [← hW2]; exact HQ.out w1 T)
        clear T HB HQ HZ KB
        go_wp2_with fail
        refine GC.mono ?_
        rintro e2 w3 ⟨rfl, hv⟩
        obtain rfl := hv.symm
        go_wp2_with fail
        refine SC.mono ?_
        rintro e3 w4 ⟨rfl, T⟩
        have FI := Lib.hid T
        clear T SC GC
        go_wp2
        first | go_end0 | (refine bodyPost_ret (results_none rfl _ _ _) rfl ?_)
        exact ⟨rfl, FI.out⟩
      · rw [if_neg (by simp)]
        rw [hg, hj] at HB
        go_enter Try.func76, Try.ntmps76
        go_wp2_with fail
        go_region_held (fun v => v.cell? ⟨w.heap.size, 2, none⟩ = some (.int .i64 ns) ∧ v.cell? ⟨w.heap.size, 5, none⟩ = some (.slice X x.length e)) (first | (with_reducible exact K0.out) | (with_reducible exact K1.out))
          ((go_at_call 83; refine PC.mono ?_; rintro e1 w1 ⟨rfl, T⟩; have K1 := Lib.hid (KB.out w1 T.on)))
        clear PC K0 K1
        obtain ⟨k19, z19⟩ := HZ.out w1 T
        obtain ⟨W2, hW2⟩ : ∃ W2, w1.setCell ⟨b, 19, none⟩ (.bool false) = W2 := ⟨_, rfl⟩
        obtain ⟨f19, y19, fb, GC, SC, -⟩ := HB.out W2 (by rw [← hW2]; exact HQ.out w1 T)
        clear T HB HQ HZ KB
        go_wp2_with fail
        refine GC.mono ?_
        rintro e2 w3 ⟨rfl, hv⟩
        obtain rfl := hv.symm
        go_wp2_with fail
        refine SC.mono ?_
        rintro e3 w4 ⟨rfl, T⟩
        have FI := Lib.hid T
        clear T SC GC
        go_wp2
        first | go_end0 | (refine bodyPost_ret (results_none rfl _ _ _) rfl ?_)
        exact ⟨rfl, FI.out⟩
  · have g0 : decide ((0 : Int) < P) = false := decide_eq_false hp
    have HQ := Lib.hid (show ∀ w1, AqTurn F b s1 W0 w1 → _ from fun w1 T => (HP.out w1 T).2.2.2 hp)
    clear HP
    cases hg : s2.od.gap
    · rw [if_neg (by simp)]
      rw [hg] at HB
      go_enter Try.func76, Try.ntmps76
      go_wp2_with fail
      go_region_held (fun v => v.cell? ⟨w.heap.size, 2, none⟩ = some (.int .i64 ns) ∧ v.cell? ⟨w.heap.size, 5, none⟩ = some (.slice X x.length e)) (first | (with_reducible exact K0.out) | (with_reducible exact K1.out))
        ((go_at_call 83; refine PC.mono ?_; rintro e1 w1 ⟨rfl, T⟩; have K1 := Lib.hid (KB.out w1 T.on)))
      clear PC K0 K1
      obtain ⟨f19, y19, fb, GC, SC, -⟩ := HB.out w1 (HQ.out w1 T)
      clear T HB HQ KB
      go_wp2_with fail
      refine GC.mono ?_
      rintro e2 w3 ⟨rfl, hv⟩
      obtain rfl := hv.symm
      go_wp2_with fail
      refine SC.mono ?_
      rintro e3 w4 ⟨rfl, T⟩
      have FI := Lib.hid T
      clear T SC GC
      go_wp2
      first | go_end0 | (refine bodyPost_ret (results_none rfl _ _ _) rfl ?_)
      exact ⟨rfl, FI.out⟩
    · cases hj : s2.rj
      · rw [if_pos ⟨rfl, rfl⟩]
        rw [hg, hj] at HB
        go_enter Try.func76, Try.ntmps76
        go_wp2_with fail
        go_region_held (fun v => v.cell? ⟨w.heap.size, 2, none⟩ = some (.int .i64 ns) ∧ v.cell? ⟨w.heap.size, 5, none⟩ = some (.slice X x.length e)) (first | (with_reducible exact K0.out) | (with_reducible exact K1.out))
          ((go_at_call 83; refine PC.mono ?_; rintro e1 w1 ⟨rfl, T⟩; have K1 := Lib.hid (KB.out w1 T.on)))
        clear PC K0 K1
        obtain ⟨f19, y19, fb, GC, -, SC⟩ := HB.out w1 (HQ.out w1 T)
        clear T HB HQ KB
        go_wp2_with fail
        refine GC.mono ?_
        rintro e2 w3 ⟨rfl, hv⟩
        obtain rfl := hv.symm
        go_wp2_with fail
        refine SC.mono ?_
        rintro e3 w4 ⟨rfl, T⟩
        have FI := Lib.hid T
        clear T SC GC
        go_wp2
        first | go_end0 | (refine bodyPost_ret (results_none rfl _ _ _) rfl ?_)
        exact ⟨rfl, FI.out⟩
      · rw [if_neg (by simp)]
        rw [hg, hj] at HB
        go_enter Try.func76, Try.ntmps76
        go_wp2_with fail
        go_region_held (fun v => v.cell? ⟨w.heap.size, 2, none⟩ = some (.int .i64 ns) ∧ v.cell? ⟨w.heap.size, 5, none⟩ = some (.slice X x.length e)) (first | (with_reducible exact K0.out) | (with_reducible exact K1.out))
          ((go_at_call 83; refine PC.mono ?_; rintro e1 w1 ⟨rfl, T⟩; have K1 := Lib.hid (KB.out w1 T.on)))
        clear PC K0 K1
        obtain ⟨f19, y19, fb, GC, SC, -⟩ := HB.out w1 (HQ.out w1 T)
        clear T HB HQ KB
        go_wp2_with fail
        refine GC.mono ?_
        rintro e2 w3 ⟨rfl, hv⟩
        obtain rfl := hv.symm
        go_wp2_with fail
        refine SC.mono ?_
        rintro e3 w4 ⟨rfl, T⟩
        have FI := Lib.hid T
        clear T SC GC
        go_wp2
        first | go_end0 | (refine bodyPost_ret (results_none rfl _ _ _) rfl ?_)
        exact ⟨rfl, FI.out⟩
end
end Go.Proofs.Ytgkdabllaankcaa
/- accept and request of an end of a session. Condition: room for the outputs and indications. -/
namespace Go.Proofs.Ytgkdabllaankcaa
open Go.RowKit
set_option linter.unusedVariables false

section
variable {w : World} {F : Nat → Prop} {b : Nat} {s : Aq} {k ns nr : Int} {p : Bool} {X : Option Addr} {n e : Nat}
set_option maxRecDepth 20000 in
set_option maxHeartbeats 2000000 in
theorem aqAccept_calls (h : AqP w F b s) (hf : s.os.length ≤ 1000000) (hi : s.is.length ≤ 1000000) (hlo : s.lo ≤ 1000000000000) {t : Nat} (ht : t < 65536) :
    Calls Try.prog 74 #[.pointer (some ⟨b, 0, none⟩), rvv t k ns nr p X n e] w fun r w' => r = .returned (.tuple #[]) ∧ AqTurn F b (s.accept t p) w w' := by
  obtain ⟨W0, hW0⟩ : ∃ W0, rvW w t k ns nr p X n e = W0 := ⟨_, rfl⟩
  have be0 : Below w.heap.size w W0 := by rw [← hW0]; exact rv_below
  have h0 := h.below be0
  have hlt := h.lt
  have kp : ∀ V, Only F W0 V → V.heap[w.heap.size]? = some (.cells (rvc t k ns nr p X n e) 75 (0, 0)) := fun V on => rv_keep hlt (by rw [hW0]; exact on)
  have c4 := h0.c4
  have CL := aqClear_calls h0 hlo
  have HB := Lib.hid (show ∀ w1, AqTurn F b s.clear W0 w1 → w1.cell? ⟨w.heap.size, 0, none⟩ = some (.int .i64 (t : Int)) ∧ w1.cell? ⟨b, 5, none⟩ = some (.int .i64 (s.clear.tg : Int)) ∧ w1.frozen? ⟨b, 5, none⟩ = false ∧ w1.cell? ⟨b, 4, none⟩ = some (.int .i64 (s.clear.st : Int)) ∧ w1.frozen? ⟨b, 4, none⟩ = false ∧
      ∃ W2, (w1.setCell ⟨b, 5, none⟩ (.int .i64 (t : Int))).setCell ⟨b, 4, none⟩ (.int .i64 2) = W2 ∧ AqTurn F b ((s.clear.setTg t).setSt 2) W0 W2 ∧ W2.cell? ⟨w.heap.size, 4, none⟩ = some (.bool p) ∧ (Calls Try.prog 33 #[.pointer (some ⟨b, 0, none⟩), .int .i64 4, .bool p] W2 fun r w' => r = .returned (.tuple #[]) ∧ AqTurn F b (((s.clear.setTg t).setSt 2).send 4 p) W0 w') from fun w1 T => by
    have T2 := (T.thenTg ht).thenSt (n := 2) (by omega)
    refine ⟨(rv_cells (kp w1 T.on)).1, T.1.c5, T.1.z 5, T.1.c4, T.1.z 4, _, rfl, T2, (rv_cells (kp _ T2.on)).2.2.2.2.1, (aqSend_calls T2.1 hf 4 p).mono ?_⟩
    rintro r w' ⟨rfl, T'⟩
    exact ⟨rfl, T2.trans T'⟩)
  have HI := Lib.hid (show ∀ w3 i, AqTurn F b (((s.clear.setTg t).setSt 2).send 4 p) W0 w3 → ∃ A c, w3.cell? ⟨b, 21, none⟩ = some (.slice A s.is.length c) ∧ ∃ A3 c3 V3, (∀ ty, (Builtin.append_ #[22, 22] ty #[.slice A s.is.length c, .slice (some ⟨w3.heap.size, 0, none⟩) 1 1]).run Try.prog (w3.alloc (.cells #[.int .i64 ((i : Nat) : Int)] 3)) = .ok (.slice A3 (s.is.length + 1) c3) V3) ∧
          V3.cell? ⟨b, 21, none⟩ = some (.slice A s.is.length c) ∧ V3.frozen? ⟨b, 21, none⟩ = false ∧ AqTurn F b ((((s.clear.setTg t).setSt 2).send 4 p).ind i) w (V3.setCell ⟨b, 21, none⟩ (.slice A3 (s.is.length + 1) c3)) from fun w3 i T => by
    obtain ⟨A, c, c21, A3, c3, V3, r3, j3, z3, T3⟩ := aqInd_mem T.1 i hi
    exact ⟨A, c, c21, A3, c3, V3, r3, j3, z3, (T.trans T3).after be0 hlt⟩)
  have es : s.accept t p = (((s.clear.setTg t).setSt 2).send 4 p).ind (if s.st = 2 then 3 else 1) := rfl
  rw [es]
  clear es h h0 hf hi hlo kp be0
  generalize (((s.clear.setTg t).setSt 2).send 4 p) = s4 at *
  generalize ((s.clear.setTg t).setSt 2) = s3 at *
  generalize s.clear = s1 at *
  generalize s.is.length = N at *
  generalize s1.st = v1 at *
  generalize s1.tg = v2 at *
  unfold rvv rvc
  unfold rvW rvc at hW0
  by_cases h2 : s.st = 2
  · rw [if_pos h2]
    rw [h2] at c4
    go_enter Try.func74, Try.ntmps74
    go_wp2_with fail
    refine CL.mono ?_
    rintro e1 w1 ⟨rfl, T⟩
    obtain ⟨f0, c5, z5, k4, z4, W2, hW2, T2, fp, SC⟩ := HB.out w1 T
    clear T T2 HB CL c4
    go_wp2_with fail
    refine SC.mono ?_
    rintro e2 w3 ⟨rfl, T3⟩
    obtain ⟨A, c, c21, A3, c3, V3, r3, j3, z3, T4⟩ := HI.out w3 3 T3
    have FI := Lib.hid T4
    clear T3 T4 HI SC
    go_wp2_with (at_builtin; refine Lib.wpList_append_run _ rfl _ _ _ _ rfl _ _ rfl rfl _ _ (r3 _) ?_)
    go_end0
    exact ⟨rfl, FI.out⟩
  · rw [if_neg h2]
    have g : ((s.st : Int) == 2) = false := beq_eq_false_iff_ne.2 (by omega)
    generalize s.st = v4 at *
    go_enter Try.func74, Try.ntmps74
    go_wp2_with fail
    refine CL.mono ?_
    rintro e1 w1 ⟨rfl, T⟩
    obtain ⟨f0, c5, z5, k4, z4, W2, hW2, T2, fp, SC⟩ := HB.out w1 T
    clear T T2 HB CL c4
    go_wp2_with fail
    refine SC.mono ?_
    rintro e2 w3 ⟨rfl, T3⟩
    obtain ⟨A, c, c21, A3, c3, V3, r3, j3, z3, T4⟩ := HI.out w3 1 T3
    have FI := Lib.hid T4
    clear T3 T4 HI SC
    go_wp2_with (at_builtin; refine Lib.wpList_append_run _ rfl _ _ _ _ rfl _ _ rfl rfl _ _ (r3 _) ?_)
    go_end0
    exact ⟨rfl, FI.out⟩
set_option maxRecDepth 20000 in
set_option maxHeartbeats 4000000 in
theorem aqRequest_calls (h : AqP w F b s) (hf : s.os.length ≤ 1000000) (hi : s.is.length ≤ 1000000) (hlo : s.lo ≤ 1000000000000) {t : Nat} (ht : t < 65536) :
    Calls Try.prog 58 #[.pointer (some ⟨b, 0, none⟩), rvv t k ns nr p X n e] w fun r w' => r = .returned (.tuple #[]) ∧ AqTurn F b (s.request t p) w w' := by
  obtain ⟨W0, hW0⟩ : ∃ W0, rvW w t k ns nr p X n e = W0 := ⟨_, rfl⟩
  have be0 : Below w.heap.size w W0 := by rw [← hW0]; exact rv_below
  have h0 := h.below be0
  have hlt := h.lt
  have kp : ∀ V, Only F W0 V → V.heap[w.heap.size]? = some (.cells (rvc t k ns nr p X n e) 75 (0, 0)) := fun V on => rv_keep hlt (by rw [hW0]; exact on)
  obtain ⟨d0, d1, d2, d3, d4, d5⟩ := rv_cells (kp W0 (Only.refl _ _))
  have c4 := h0.c4
  have c5 := h0.c5
  have AH := fun q : Nat => aqAhead_calls (h0.drewN q) ht
  have SC1 := fun q : Nat => ((aqSend_calls (h0.drewN q) hf 4 p).mono (show ∀ r w', _ → r = .returned (.tuple #[]) ∧ AqTurn F b (s.send 4 p) w w' from fun r w' hh => ⟨hh.1, (AqTurn.from_drewN hh.2).after be0 hlt⟩))
  have SC2 := fun q : Nat => ((aqSend_calls (h0.drewN q) hf 6 false).mono (show ∀ r w', _ → r = .returned (.tuple #[]) ∧ AqTurn F b (s.send 6 false) w w' from fun r w' hh => ⟨hh.1, (AqTurn.from_drewN hh.2).after be0 hlt⟩))
  have AC := fun q : Nat => ((aqAccept_calls (k := k) (ns := ns) (nr := nr) (p := p) (X := X) (n := n) (e := e) (h0.drewN q) hf hi hlo ht).mono (show ∀ r w', _ → r = .returned (.tuple #[]) ∧ AqTurn F b (s.accept t p) w w' from fun r w' hh => ⟨hh.1, (AqTurn.from_drewN hh.2).after be0 hlt⟩))
  have TR := Lib.hid (fun q : Nat => ((AqTurn.refl h0).after be0 hlt).drewN q)
  have hst := h.2.st3
  have er : s.request t p = (if s.st = 3 then s else if s.st = 2 ∧ t = s.tg then s.send 4 p else if (s.st = 1 ∧ t = s.tg) ∨ s.ahead t = true then s.accept t p else if s.st = 0 then s.send 6 false else s) := rfl
  rw [er]
  unfold rvv rvc at AC ⊢
  unfold rvW rvc at hW0
  clear er h h0 hf hi hlo kp be0 hlt ht
  generalize s.accept t p = s1 at *
  generalize s.send 4 p = s2 at *
  generalize s.send 6 false = s3 at *
  generalize s.ahead t = ah at *
  generalize s.st = st at *
  generalize s.tg = g at *
  by_cases hs' : t = g
  · have gs : ((t : Int) == (g : Int)) = true := by simp; omega
    have hs := Lib.hid hs'
    clear hs'
    have hcase : st = 0 ∨ st = 1 ∨ st = 2 ∨ st = 3 := by omega
    clear hst
    cases ah
    · rcases hcase with rfl | rfl | rfl | rfl
      · rw [if_neg (by decide), if_neg (by simp), if_neg (by simp), if_pos rfl]
        go_enter Try.func58, Try.ntmps58
        go_wp2_with fail
        go_quiet (first | (go_at_call 61; exact Calls.quiet_of_same (AH _)))
        go_wp2_with fail
        refine (SC2 _).mono ?_
        rintro e1 w1 ⟨rfl, T⟩
        have FI := Lib.hid T
        clear T
        go_wp2
        first | go_end0 | (refine bodyPost_ret (results_none rfl _ _ _) rfl ?_)
        exact ⟨rfl, FI.out⟩
      · rw [if_neg (by decide), if_neg (by simp), if_pos (.inl ⟨rfl, hs.out⟩)]
        go_enter Try.func58, Try.ntmps58
        go_wp2_with fail
        go_quiet (first | (go_at_call 61; exact Calls.quiet_of_same (AH _)))
        go_wp2_with fail
        refine (AC _).mono ?_
        rintro e1 w1 ⟨rfl, T⟩
        have FI := Lib.hid T
        clear T
        go_wp2
        first | go_end0 | (refine bodyPost_ret (results_none rfl _ _ _) rfl ?_)
        exact ⟨rfl, FI.out⟩
      · rw [if_neg (by decide), if_pos ⟨rfl, hs.out⟩]
        go_enter Try.func58, Try.ntmps58
        go_wp2_with fail
        go_quiet (first | (go_at_call 61; exact Calls.quiet_of_same (AH _)))
        go_wp2_with fail
        refine (SC1 _).mono ?_
        rintro e1 w1 ⟨rfl, T⟩
        have FI := Lib.hid T
        clear T
        go_wp2
        first | go_end0 | (refine bodyPost_ret (results_none rfl _ _ _) rfl ?_)
        exact ⟨rfl, FI.out⟩
      · rw [if_pos rfl]
        go_enter Try.func58, Try.ntmps58
        go_wp2_with fail
        go_quiet (first | (go_at_call 61; exact Calls.quiet_of_same (AH _)))
        go_wp2
        first | go_end0 | (refine bodyPost_ret (results_none rfl _ _ _) rfl ?_)
        exact ⟨rfl, TR.out _⟩
    · rcases hcase with rfl | rfl | rfl | rfl
      · rw [if_neg (by decide), if_neg (by simp), if_pos (.inr rfl)]
        go_enter Try.func58, Try.ntmps58
        go_wp2_with fail
        go_quiet (first | (go_at_call 61; exact Calls.quiet_of_same (AH _)))
        go_wp2_with fail
        refine (AC _).mono ?_
        rintro e1 w1 ⟨rfl, T⟩
        have FI := Lib.hid T
        clear T
        go_wp2
        first | go_end0 | (refine bodyPost_ret (results_none rfl _ _ _) rfl ?_)
        exact ⟨rfl, FI.out⟩
      · rw [if_neg (by decide), if_neg (by simp), if_pos (.inl ⟨rfl, hs.out⟩)]
        go_enter Try.func58, Try.ntmps58
        go_wp2_with fail
        go_quiet (first | (go_at_call 61; exact Calls.quiet_of_same (AH _)))
        go_wp2_with fail
        refine (AC _).mono ?_
        rintro e1 w1 ⟨rfl, T⟩
        have FI := Lib.hid T
        clear T
        go_wp2
        first | go_end0 | (refine bodyPost_ret (results_none rfl _ _ _) rfl ?_)
        exact ⟨rfl, FI.out⟩
      · rw [if_neg (by decide), if_pos ⟨rfl, hs.out⟩]
        go_enter Try.func58, Try.ntmps58
        go_wp2_with fail
        go_quiet (first | (go_at_call 61; exact Calls.quiet_of_same (AH _)))
        go_wp2_with fail
        refine (SC1 _).mono ?_
        rintro e1 w1 ⟨rfl, T⟩
        have FI := Lib.hid T
        clear T
        go_wp2
        first | go_end0 | (refine bodyPost_ret (results_none rfl _ _ _) rfl ?_)
        exact ⟨rfl, FI.out⟩
      · rw [if_pos rfl]
        go_enter Try.func58, Try.ntmps58
        go_wp2_with fail
        go_quiet (first | (go_at_call 61; exact Calls.quiet_of_same (AH _)))
        go_wp2
        first | go_end0 | (refine bodyPost_ret (results_none rfl _ _ _) rfl ?_)
        exact ⟨rfl, TR.out _⟩
  · have gs : ((t : Int) == (g : Int)) = false := beq_eq_false_iff_ne.2 (by omega)
    have hs := Lib.hid hs'
    clear hs'
    have hcase : st = 0 ∨ st = 1 ∨ st = 2 ∨ st = 3 := by omega
    clear hst
    cases ah
    · rcases hcase with rfl | rfl | rfl | rfl
      · rw [if_neg (by decide), if_neg (by simp), if_neg (by simp), if_pos rfl]
        go_enter Try.func58, Try.ntmps58
        go_wp2_with fail
        go_quiet (first | (go_at_call 61; exact Calls.quiet_of_same (AH _)))
        go_wp2_with fail
        refine (SC2 _).mono ?_
        rintro e1 w1 ⟨rfl, T⟩
        have FI := Lib.hid T
        clear T
        go_wp2
        first | go_end0 | (refine bodyPost_ret (results_none rfl _ _ _) rfl ?_)
        exact ⟨rfl, FI.out⟩
      · rw [if_neg (by decide), if_neg (by simp), if_neg (fun h => h.elim (fun h => hs.out h.2) (fun h => Bool.noConfusion h)), if_neg (by decide)]
        go_enter Try.func58, Try.ntmps58
        go_wp2_with fail
        go_quiet (first | (go_at_call 61; exact Calls.quiet_of_same (AH _)))
        go_wp2
        first | go_end0 | (refine bodyPost_ret (results_none rfl _ _ _) rfl ?_)
        exact ⟨rfl, TR.out _⟩
      · rw [if_neg (by decide), if_neg (fun h => hs.out h.2), if_neg (by simp), if_neg (by decide)]
        go_enter Try.func58, Try.ntmps58
        go_wp2_with fail
        go_quiet (first | (go_at_call 61; exact Calls.quiet_of_same (AH _)))
        go_wp2
        first | go_end0 | (refine bodyPost_ret (results_none rfl _ _ _) rfl ?_)
        exact ⟨rfl, TR.out _⟩
      · rw [if_pos rfl]
        go_enter Try.func58, Try.ntmps58
        go_wp2_with fail
        go_quiet (first | (go_at_call 61; exact Calls.quiet_of_same (AH _)))
        go_wp2
        first | go_end0 | (refine bodyPost_ret (results_none rfl _ _ _) rfl ?_)
        exact ⟨rfl, TR.out _⟩
    · rcases hcase with rfl | rfl | rfl | rfl
      · rw [if_neg (by decide), if_neg (by simp), if_pos (.inr rfl)]
        go_enter Try.func58, Try.ntmps58
        go_wp2_with fail
        go_quiet (first | (go_at_call 61; exact Calls.quiet_of_same (AH _)))
        go_wp2_with fail
        refine (AC _).mono ?_
        rintro e1 w1 ⟨rfl, T⟩
        have FI := Lib.hid T
        clear T
        go_wp2
        first | go_end0 | (refine bodyPost_ret (results_none rfl _ _ _) rfl ?_)
        exact ⟨rfl, FI.out⟩
      · rw [if_neg (by decide), if_neg (by simp), if_pos (.inr rfl)]
        go_enter Try.func58, Try.ntmps58
        go_wp2_with fail
        go_quiet (first | (go_at_call 61; exact Calls.quiet_of_same (AH _)))
        go_wp2_with fail
        refine (AC _).mono ?_
        rintro e1 w1 ⟨rfl, T⟩
        have FI := Lib.hid T
        clear T
        go_wp2
        first | go_end0 | (refine bodyPost_ret (results_none rfl _ _ _) rfl ?_)
        exact ⟨rfl, FI.out⟩
      · rw [if_neg (by decide), if_neg (fun h => hs.out h.2), if_pos (.inr rfl)]
        go_enter Try.func58, Try.ntmps58
        go_wp2_with fail
        go_quiet (first | (go_at_call 61; exact Calls.quiet_of_same (AH _)))
        go_wp2_with fail
        refine (AC _).mono ?_
        rintro e1 w1 ⟨rfl, T⟩
        have FI := Lib.hid T
        clear T
        go_wp2
        first | go_end0 | (refine bodyPost_ret (results_none rfl _ _ _) rfl ?_)
        exact ⟨rfl, FI.out⟩
      · rw [if_pos rfl]
        go_enter Try.func58, Try.ntmps58
        go_wp2_with fail
        go_quiet (first | (go_at_call 61; exact Calls.quiet_of_same (AH _)))
        go_wp2
        first | go_end0 | (refine bodyPost_ret (results_none rfl _ _ _) rfl ?_)
        exact ⟨rfl, TR.out _⟩
end
end Go.Proofs.Ytgkdabllaankcaa
/- exchange of an end of a session. Condition: room for outputs, indications, messages. -/
namespace Go.Proofs.Ytgkdabllaankcaa
open Go.RowKit
set_option linter.unusedVariables false

namespace Aq
/-- room for whatever one input adds -/
structure Room (s : Aq) : Prop where
  os : s.os.length ≤ 990000
  is : s.is.length ≤ 990000
  od : s.od.all ≤ 990000
  sn : s.sn ≤ 100000000000
  ak : s.ak ≤ 100000000000
  lo : s.lo ≤ 100000000000
theorem retrL_eq : ∀ (l : List Nat) (s : Aq), (s.retrL l).lg = s.lg ∧ (s.retrL l).od = s.od ∧ (s.retrL l).os.length = s.os.length + l.length ∧ (s.retrL l).is = s.is ∧ (s.retrL l).sn = s.sn ∧ (s.retrL l).ak = s.ak ∧ (s.retrL l).lo = s.lo ∧ (s.retrL l).st = s.st ∧ (s.retrL l).tg = s.tg ∧ (s.retrL l).rj = s.rj
  | [], s => ⟨rfl, rfl, rfl, rfl, rfl, rfl, rfl, rfl, rfl, rfl⟩
  | n :: l, s => by
    obtain ⟨h1, h2, h3, h4, h5, h6, h7, h8, h9, h10⟩ := retrL_eq l (s.retrStep n)
    refine ⟨h1, h2, ?_, h4, h5, h6, h7, h8, h9, h10⟩
    show ((s.retrStep n).retrL l).os.length = _
    rw [h3, (retrStep_eq s n).2, List.length_cons]
    omega
theorem retr_eq (s : Aq) : s.retr.lg = s.lg ∧ s.retr.od = s.od ∧ s.retr.os.length = s.os.length + s.lg.n := by
  obtain ⟨h1, h2, h3, _⟩ := retrL_eq s.lg.out s
  exact ⟨h1, h2, by unfold retr; rw [h3, Lg.out_len]⟩
theorem ack_eq (l : Lg) (n : Int) : (l.ack n).W = l.W ∧ (l.ack n).n ≤ l.n := by
  unfold Lg.ack
  split
  · exact ⟨rfl, Nat.sub_le _ _⟩
  · exact ⟨rfl, Nat.le_refl _⟩
theorem acks_eq (s : Aq) (n : Int) : (s.acks n).lg = s.lg.ack n ∧ (s.acks n).od = s.od ∧ (s.acks n).os = s.os := by
  unfold acks
  split
  · exact ⟨rfl, rfl, rfl⟩
  · exact ⟨rfl, rfl, rfl⟩
theorem take_eq (s : Aq) (ns : Int) (x : List UInt8) (p : Bool) : (s.take ns x p).lg = s.lg ∧ (s.take ns x p).os.length = s.os.length + 1 := by
  unfold take answer
  split
  · exact ⟨rfl, by simp [send, put, setRj, recvd]⟩
  · exact ⟨rfl, by simp [send, put, recvd]⟩
theorem W_le {s : Aq} (h : s.Ok) : s.lg.W ≤ 4096 ∧ s.lg.n ≤ 4096 := by have := h.lg.w8; have := h.lg.m9; have := h.lg.n9; omega
end Aq
section
variable {w : World} {F : Nat → Prop} {b : Nat} {s : Aq} {t k ns nr : Int} {p : Bool} {X : Option Addr} {e : Nat}
/-- how a CI, CRR, CREJ is answered -/
def exchQ (s : Aq) (k ns nr : Int) (p : Bool) (x : List UInt8) : Aq := if k = 0 ∧ s.sz < x.length then s.send 7 false else s.exch k ns nr p x
def exchB (s : Aq) (k : Int) (x : List UInt8) : Bool := !(decide (k = 0) && decide (s.sz < x.length))
set_option maxRecDepth 20000 in
set_option maxHeartbeats 4000000 in
theorem aqExch_calls (h : AqP w F b s) (hr : s.Room) (hns : I64 ns) (hnr : I64 nr) (x : List UInt8) (hrd : Rd w X x) (hx : x.length ≤ 1048576) (hXF : ∀ i, blk X = some i → ¬ F i) (hXl : ∀ i, blk X = some i → i < w.heap.size) :
    Calls Try.prog 59 #[.pointer (some ⟨b, 0, none⟩), rvv t k ns nr p X x.length e] w fun r w' => r = .returned (.bool (exchB s k x)) ∧ AqTurn F b (exchQ s k ns nr p x) w w' := by
  obtain ⟨W0, hW0⟩ : ∃ W0, rvW w t k ns nr p X x.length e = W0 := ⟨_, rfl⟩
  have be0 : Below w.heap.size w W0 := by rw [← hW0]; exact rv_below
  have h0 := h.below be0
  have hlt := h.lt
  have kp : ∀ V, Only F W0 V → V.heap[w.heap.size]? = some (.cells (rvc t k ns nr p X x.length e) 75 (0, 0)) := fun V on => rv_keep hlt (by rw [hW0]; exact on)
  obtain ⟨d0, d1, d2, d3, d4, d5⟩ := rv_cells (kp W0 (Only.refl _ _))
  have hsW : w.heap.size ≤ W0.heap.size := be0.size
  have c3 := h0.c3
  have hWn := Aq.W_le h.2
  have hros := hr.os
  have hrod := hr.od
  have rdk : ∀ V, Only F W0 V → Rd V X x := fun V on => (hrd.below be0).only on hXF
  have KC := Lib.hid (show ∀ V, Only F W0 V → V.cell? ⟨w.heap.size, 0, none⟩ = some (.int .i64 t) ∧ V.cell? ⟨w.heap.size, 1, none⟩ = some (.int .i64 k) ∧ V.cell? ⟨w.heap.size, 2, none⟩ = some (.int .i64 ns) ∧ V.cell? ⟨w.heap.size, 3, none⟩ = some (.int .i64 nr) ∧ V.cell? ⟨w.heap.size, 4, none⟩ = some (.bool p) ∧ V.cell? ⟨w.heap.size, 5, none⟩ = some (.slice X x.length e) from fun V on => rv_cells (kp V on))
  have HA := Lib.hid (show ∀ q : Nat, Calls Try.prog 75 #[.pointer (some ⟨b, 0, none⟩), .int .i64 nr] (W0.drewN q) fun r w' => r = .returned (.bool (s.lg.hit nr)) ∧ AqTurn F b (s.acks nr) W0 w' from fun q => (aqAck_calls (h0.drewN q) (by have := hr.ak; omega) nr hnr).mono (fun r w' hh => ⟨hh.1, hh.2.from_drewN⟩))
  have HS := Lib.hid (show ∀ q : Nat, Calls Try.prog 33 #[.pointer (some ⟨b, 0, none⟩), .int .i64 7, .bool false] (W0.drewN q) fun r w' => r = .returned (.tuple #[]) ∧ AqTurn F b (s.send 7 false) w w' from fun q => (aqSend_calls (h0.drewN q) (by omega) 7 false).mono (fun r w' hh => ⟨hh.1, hh.2.from_drewN.after be0 hlt⟩))
  obtain ⟨ea1, ea2, ea3⟩ := Aq.acks_eq s nr
  have eW := Aq.ack_eq s.lg nr
  have HR := Lib.hid (show ∀ w1, AqTurn F b (s.acks nr) W0 w1 → Calls Try.prog 29 #[.pointer (some ⟨b, 0, none⟩)] w1 fun r w' => r = .returned (.tuple #[]) ∧ AqTurn F b (s.acks nr).retr W0 w' from fun w1 T => (aqRetr_calls T.1 (by rw [ea3, ea1]; omega)).mono (fun r w' hh => ⟨hh.1, T.trans hh.2⟩))
  have HT := Lib.hid (show ∀ w1, AqTurn F b (s.acks nr) W0 w1 → Calls Try.prog 76 #[.pointer (some ⟨b, 0, none⟩), rvv t k ns nr p X x.length e] w1 fun r w' => r = .returned (.tuple #[]) ∧ AqTurn F b ((s.acks nr).take ns x p) W0 w' from fun w1 T => (aqTake_calls T.1 (by rw [ea3]; omega) (by rw [ea2]; omega) hns x (rdk w1 T.on) hx).mono (fun r w' hh => ⟨hh.1, T.trans hh.2⟩))
  have HPm := Lib.hid (show ∀ s2 : Aq, s2.os.length + s2.lg.W ≤ 1000000 → ∀ w1, AqTurn F b s2 W0 w1 → Calls Try.prog 26 #[.pointer (some ⟨b, 0, none⟩)] w1 fun r w' => r = .returned (.tuple #[]) ∧ AqTurn F b s2.pump w w' from fun s2 hf w1 T => (aqPump_calls T.1 (by omega)).mono (fun r w' hh => ⟨hh.1, (T.trans hh.2).after be0 hlt⟩))
  have P1 := HPm.out (s.acks nr) (by rw [ea3, ea1, eW.1]; omega)
  have P2 := HPm.out (s.acks nr).retr (by obtain ⟨r1, r2, r3⟩ := Aq.retr_eq (s.acks nr); rw [r1, r3, ea3, ea1, eW.1]; omega)
  have P3 := HPm.out ((s.acks nr).take ns x p) (by obtain ⟨r1, r2⟩ := Aq.take_eq (s.acks nr) ns x p; rw [r1, r2, ea3, ea1, eW.1]; omega)
  have HP1 := Lib.hid P1
  have HP2 := Lib.hid P2
  have HP3 := Lib.hid P3
  have eq0 : exchQ s k ns nr p x = (if k = 0 ∧ s.sz < x.length then s.send 7 false else ((if k = 0 then ((if k = 2 ∧ s.lg.hit nr = true then (s.acks nr).retr else s.acks nr)).take ns x p else (if k = 2 ∧ s.lg.hit nr = true then (s.acks nr).retr else s.acks nr)).pump)) := rfl
  have eqb : exchB s k x = !(decide (k = 0) && decide (s.sz < x.length)) := rfl
  rw [eq0, eqb]
  clear h h0 hr hns hnr hrd hXF hXl be0 hlt kp hWn hros hrod rdk P1 P2 P3 HPm eq0 eqb ea1 ea2 ea3 eW hsW
  unfold rvv rvc at HT
  unfold rvv rvc
  unfold rvW rvc at hW0
  generalize hs4 : (s.acks nr).take ns x p = s4 at *
  generalize (s.acks nr).retr = s3 at *
  generalize s.acks nr = s2 at *
  generalize s.send 7 false = s1 at *
  generalize s.lg.hit nr = q at *
  generalize s.sz = sz at *
  by_cases hk0 : k = 0
  · subst hk0
    by_cases hz : sz < x.length
    · rw [if_pos ⟨rfl, hz⟩]
      have gz : (sz : Int) < (x.length : Int) := by omega
      have gz2 : decide ((sz : Int) < (x.length : Int)) = true := decide_eq_true gz
      have gb : (!(decide ((0 : Int) = 0) && decide (sz < x.length))) = false := by rw [decide_eq_true hz]; rfl
      rw [gb]
      clear hz gb HA HR HT HP1 HP2 HP3 hs4
      go_enter Try.func59, Try.ntmps59
      go_wp2_with fail
      go_quiet (fail)
      go_wp2_with fail
      refine (HS.out _).mono ?_
      rintro e1 w1 ⟨rfl, T1⟩
      have FI := Lib.hid T1
      clear T1
      go_wp2
      go_ret
      exact ⟨rfl, FI.out⟩
    · rw [if_neg (fun h => hz h.2), if_pos rfl, if_neg (by simp), hs4]
      have gz : ¬ (sz : Int) < (x.length : Int) := by omega
      have gz2 : decide ((sz : Int) < (x.length : Int)) = false := decide_eq_false gz
      have gb : (!(decide ((0 : Int) = 0) && decide (sz < x.length))) = true := by rw [decide_eq_false hz]; rfl
      rw [gb]
      clear hz gb HR HP1 HP2 HS hs4
      go_enter Try.func59, Try.ntmps59
      go_wp2_with fail
      go_quiet (fail)
      go_wp2_with fail
      refine (HA.out _).mono ?_
      rintro e1 w1 ⟨rfl, T1⟩
      obtain ⟨f0, f1, f2, f3, f4, f5⟩ := KC.out w1 T1.on
      have TC := HT.out w1 T1
      clear T1 HT HA
      go_wp2_with fail
      refine TC.mono ?_
      rintro e2 w2 ⟨rfl, T2⟩
      have PC := HP3.out w2 T2
      clear T2 TC HP3
      go_wp2_with fail
      refine PC.mono ?_
      rintro e3 w3 ⟨rfl, T3⟩
      have FI := Lib.hid T3
      clear T3 PC
      go_wp2
      go_ret
      exact ⟨rfl, FI.out⟩
  · by_cases hk2 : k = 2
    · subst hk2
      cases q
      · rw [if_neg (fun h => hk0 h.1), if_neg hk0, if_neg (by simp)]
        have gb : (!(decide ((2 : Int) = 0) && decide (sz < x.length))) = true := rfl
        rw [gb]
        clear gb HT HP2 HP3 HS hs4 HR
        go_enter Try.func59, Try.ntmps59
        go_wp2_with fail
        go_quiet (fail)
        go_wp2_with fail
        refine (HA.out _).mono ?_
        rintro e1 w1 ⟨rfl, T1⟩
        obtain ⟨f0, f1, f2, f3, f4, f5⟩ := KC.out w1 T1.on
        have PC := HP1.out w1 T1
        clear T1 HA HP1
        go_wp2_with fail
        refine PC.mono ?_
        rintro e3 w3 ⟨rfl, T3⟩
        have FI := Lib.hid T3
        clear T3 PC
        go_wp2
        go_ret
        exact ⟨rfl, FI.out⟩
      · rw [if_neg (fun h => hk0 h.1), if_neg hk0, if_pos ⟨rfl, rfl⟩]
        have gb : (!(decide ((2 : Int) = 0) && decide (sz < x.length))) = true := rfl
        rw [gb]
        clear gb HT HP1 HP3 HS hs4
        go_enter Try.func59, Try.ntmps59
        go_wp2_with fail
        go_quiet (fail)
        go_wp2_with fail
        refine (HA.out _).mono ?_
        rintro e1 w1 ⟨rfl, T1⟩
        obtain ⟨f0, f1, f2, f3, f4, f5⟩ := KC.out w1 T1.on
        have TC := HR.out w1 T1
        clear T1 HR HA
        go_wp2_with fail
        refine TC.mono ?_
        rintro e2 w2 ⟨rfl, T2⟩
        have PC := HP2.out w2 T2
        obtain ⟨m0, m1, m2, m3, m4, m5⟩ := KC.out w2 T2.on
        clear T2 TC HP2
        go_wp2_with fail
        refine PC.mono ?_
        rintro e3 w3 ⟨rfl, T3⟩
        have FI := Lib.hid T3
        clear T3 PC
        go_wp2
        go_ret
        exact ⟨rfl, FI.out⟩
    · rw [if_neg (fun h => hk0 h.1), if_neg hk0, if_neg (fun h => hk2 h.1)]
      have g0 : (k == 0) = false := beq_eq_false_iff_ne.2 hk0
      have g2 : (k == 2) = false := beq_eq_false_iff_ne.2 hk2
      have gb : (!(decide (k = 0) && decide (sz < x.length))) = true := by rw [decide_eq_false hk0]; rfl
      rw [gb]
      clear gb HT HP2 HP3 HS hs4 HR hk0 hk2
      go_enter Try.func59, Try.ntmps59
      go_wp2_with fail
      go_quiet (fail)
      go_wp2_with fail
      refine (HA.out _).mono ?_
      rintro e1 w1 ⟨rfl, T1⟩
      obtain ⟨f0, f1, f2, f3, f4, f5⟩ := KC.out w1 T1.on
      have PC := HP1.out w1 T1
      clear T1 HA HP1
      go_wp2_with fail
      refine PC.mono ?_
      rintro e3 w3 ⟨rfl, T3⟩
      have FI := Lib.hid T3
      clear T3 PC
      go_wp2
      go_ret
      exact ⟨rfl, FI.out⟩
end
end Go.Proofs.Ytgkdabllaankcaa
/- A scope in which the run jumps to more than one label, forward or back: what holds at each jump, and a measure that every pass from a label lowers. No condition. -/
namespace Go.Proofs.Ytgkdabllaankcaa
open Go

/-- As Q; by a goto to label l: J l. -/
def jumps (J : Nat → Act → World → Prop) (Q : Exit → Act → World → Prop) : Exit → Act → World → Prop
  | .goto l, a, w => J l a w
  | e, a, w => Q e a w
theorem jumps_ret (J : Nat → Act → World → Prop) (Q : Exit → Act → World → Prop) (a : Act) (w : World) : jumps J Q .ret a w = Q .ret a w := rfl
theorem jumps_goto (J : Nat → Act → World → Prop) (Q : Exit → Act → World → Prop) (l : Nat) (a : Act) (w : World) : jumps J Q (.goto l) a w = J l a w := rfl

theorem wp_scope_ranked {P : Program} {a : Act} {w : World} {Q : Exit → Act → World → Prop} {c : Code} (J : Nat → Act → World → Prop) (μ : Nat → Act → World → Nat)
    (first : c.wp P (jumps J Q) a w)
    (pass : ∀ l a w, J l a w → ∃ rest, findLabel c l = some rest ∧ rest.wp P (jumps (fun l' a' w' => J l' a' w' ∧ μ l' a' w' < μ l a w) Q) a w) : (Code.scope c).wp P Q a w := by
  intro b k cs
  have hg : ∀ l rest, findLabel c l = some rest → gotoIn l (.inScope c :: k) = some (.code rest :: .inScope c :: k) := fun l rest hf => by simp [gotoIn, hf]
  have key : ∀ n l a w rest, μ l a w = n → J l a w → findLabel c l = some rest → ∃ e a' w', Q e a' w' ∧ Arrives P (lone (b.at a (.code rest :: .inScope c :: k)) cs w) b k cs e a' w' := by
    intro n
    induction n using Nat.strongRecOn with
    | _ n ih =>
      intro l a w rest hn hJ hf
      obtain ⟨rest', hf', hp⟩ := pass l a w hJ
      rw [hf] at hf'
      injection hf' with hf'
      subst hf'
      obtain ⟨e, a₁, w₁, hq, harr⟩ := hp b (.inScope c :: k) cs
      cases e with
      | normal => exact ⟨.normal, a₁, w₁, hq, Steps.trans harr (.one step_inScope)⟩
      | exit id => exact ⟨.exit id, a₁, w₁, hq, fun k' hk => harr k' (by simp [exitTo, hk])⟩
      | goto l' =>
        obtain ⟨hJ', hlt⟩ := hq
        obtain ⟨rest₂, hf₂, _⟩ := pass l' a₁ w₁ hJ'
        obtain ⟨e₂, a₂, w₂, hq₂, harr₂⟩ := ih _ (by omega) l' a₁ w₁ rest₂ rfl hJ' hf₂
        exact ⟨e₂, a₂, w₂, hq₂, .of_steps (harr _ (hg _ _ hf₂)) harr₂⟩
      | ret => exact ⟨_, a₁, w₁, hq, harr⟩
      | panic ch => exact ⟨_, a₁, w₁, hq, harr⟩
      | outgrown => exact ⟨_, a₁, w₁, hq, harr⟩
  obtain ⟨e, a₁, w₁, hq, harr⟩ := first b (.inScope c :: k) cs
  cases e with
  | normal => exact ⟨.normal, a₁, w₁, hq, .head step_scope (Steps.trans harr (.one step_inScope))⟩
  | exit id => exact ⟨.exit id, a₁, w₁, hq, fun k' hk => .head step_scope (harr k' (by simp [exitTo, hk]))⟩
  | goto l' =>
    obtain ⟨rest₂, hf₂, _⟩ := pass l' a₁ w₁ hq
    obtain ⟨e₂, a₂, w₂, hq₂, harr₂⟩ := key _ l' a₁ w₁ rest₂ rfl hq hf₂
    exact ⟨e₂, a₂, w₂, hq₂, .of_steps (.head step_scope (harr _ (hg _ _ hf₂))) harr₂⟩
  | ret => exact ⟨_, a₁, w₁, hq, .of_steps (.one step_scope) harr⟩
  | panic ch => exact ⟨_, a₁, w₁, hq, .of_steps (.one step_scope) harr⟩
  | outgrown => exact ⟨_, a₁, w₁, hq, .of_steps (.one step_scope) harr⟩
theorem wp_scope_labels {P : Program} {a : Act} {w : World} {Q : Exit → Act → World → Prop} {c : Code} (J : Nat → Act → World → Prop) (μ : Act → World → Nat)
    (first : c.wp P (jumps J Q) a w)
    (pass : ∀ l a w, J l a w → ∃ rest, findLabel c l = some rest ∧ rest.wp P (jumps (fun l' a' w' => J l' a' w' ∧ μ a' w' < μ a w) Q) a w) : (Code.scope c).wp P Q a w :=
  wp_scope_ranked J (fun _ => μ) first pass
/-- to one label, and from it on to another one at most -/
theorem wp_scope_two {P : Program} {a : Act} {w : World} {Q : Exit → Act → World → Prop} {c : Code} (l1 l2 : Nat) (hne : l2 ≠ l1) (J1 J2 : Act → World → Prop)
    (first : c.wp P (jumps (fun l a w => l = l1 ∧ J1 a w) Q) a w)
    (pass1 : ∀ a w, J1 a w → ∃ rest, findLabel c l1 = some rest ∧ rest.wp P (jumps (fun l a w => l = l2 ∧ J2 a w) Q) a w)
    (pass2 : ∀ a w, J2 a w → ∃ rest, findLabel c l2 = some rest ∧ rest.wp P (jumps (fun _ _ _ => False) Q) a w) : (Code.scope c).wp P Q a w := by
  refine wp_scope_ranked (fun l a w => (l = l1 ∧ J1 a w) ∨ (l = l2 ∧ J2 a w)) (fun l _ _ => if l = l1 then 1 else 0) (Go.wp_mono first ?_) ?_
  · intro e a w h
    cases e <;> first | exact h | exact .inl h
  · rintro l a w (⟨rfl, h⟩ | ⟨rfl, h⟩)
    · obtain ⟨rest, hf, hw⟩ := pass1 a w h
      refine ⟨rest, hf, Go.wp_mono hw ?_⟩
      intro e a' w' h
      cases e <;> first | exact h | (obtain ⟨rfl, h⟩ := h; exact ⟨.inr ⟨rfl, h⟩, by rw [if_pos rfl, if_neg hne]; decide⟩)
    · obtain ⟨rest, hf, hw⟩ := pass2 a w h
      refine ⟨rest, hf, Go.wp_mono hw ?_⟩
      intro e a' w' h
      cases e <;> first | exact h | exact h.elim
end Go.Proofs.Ytgkdabllaankcaa

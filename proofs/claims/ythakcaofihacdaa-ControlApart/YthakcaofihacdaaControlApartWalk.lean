/- The law ControlApart, walked. No condition. -/
import Derived.Test.YthakcaofihacdaaCtlAlive
import Derived.Test.YthakcaofihacdaaCtlRefRight
import Derived.Test.YthakcaofihacdaaCtlRead
import Derived.Test.YthakcaofihacdaaCtlEq
import Derived.Test.YthakcaofihacdaaCtlBack
namespace Go.Proofs.Ythakcaofihacdaa
open Go.RowKit
set_option linter.unusedVariables false

/-- the cells of the two that came in -/
def Both (w v : World) (k ns nr : Int) (p : Bool) (k' ns' nr' : Int) (p' : Bool) : Prop :=
  (v.cell? ⟨w.heap.size, 0, none⟩ = some (.int .i64 k) ∧ v.cell? ⟨w.heap.size, 1, none⟩ = some (.int .i64 ns) ∧ v.cell? ⟨w.heap.size, 2, none⟩ = some (.int .i64 nr) ∧ v.cell? ⟨w.heap.size, 3, none⟩ = some (.bool p)) ∧
  (v.cell? ⟨w.heap.size + 1, 0, none⟩ = some (.int .i64 k') ∧ v.cell? ⟨w.heap.size + 1, 1, none⟩ = some (.int .i64 ns') ∧ v.cell? ⟨w.heap.size + 1, 2, none⟩ = some (.int .i64 nr') ∧ v.cell? ⟨w.heap.size + 1, 3, none⟩ = some (.bool p'))
theorem both_of (w : World) (k ns nr : Int) (p : Bool) (k' ns' nr' : Int) (p' : Bool) (v : World) (hv : Below (boxed (boxed w k ns nr p) k' ns' nr' p').heap.size (boxed (boxed w k ns nr p) k' ns' nr' p') v) : Both w v k ns nr p k' ns' nr' p' := by
  have h0 : (boxed (boxed w k ns nr p) k' ns' nr' p').heap[w.heap.size]? = some (.cells #[.int .i64 k, .int .i64 ns, .int .i64 nr, .bool p] 23 (0, 0)) := by
    rw [(boxed_below (boxed w k ns nr p) k' ns' nr' p').block w.heap.size (by rw [boxed_size]; omega)]
    exact heap_alloc_new w _
  have h1 : (boxed (boxed w k ns nr p) k' ns' nr' p').heap[w.heap.size + 1]? = some (.cells #[.int .i64 k', .int .i64 ns', .int .i64 nr', .bool p'] 23 (0, 0)) := by
    have := heap_alloc_new (boxed w k ns nr p) (.cells #[.int .i64 k', .int .i64 ns', .int .i64 nr', .bool p'] 23)
    rw [boxed_size] at this
    exact this
  have hs : (boxed (boxed w k ns nr p) k' ns' nr' p').heap.size = w.heap.size + 1 + 1 := by rw [boxed_size, boxed_size]
  refine ⟨⟨?_, ?_, ?_, ?_⟩, ⟨?_, ?_, ?_, ?_⟩⟩
  · rw [hv.cell (by rw [hs]; show w.heap.size < _; omega), cell_of_row _ _ _ _ _ (0, 0) h0]; rfl
  · rw [hv.cell (by rw [hs]; show w.heap.size < _; omega), cell_of_row _ _ _ _ _ (0, 0) h0]; rfl
  · rw [hv.cell (by rw [hs]; show w.heap.size < _; omega), cell_of_row _ _ _ _ _ (0, 0) h0]; rfl
  · rw [hv.cell (by rw [hs]; show w.heap.size < _; omega), cell_of_row _ _ _ _ _ (0, 0) h0]; rfl
  · rw [hv.cell (by rw [hs]; show w.heap.size + 1 < _; omega), cell_of_row _ _ _ _ _ (0, 0) h1]; rfl
  · rw [hv.cell (by rw [hs]; show w.heap.size + 1 < _; omega), cell_of_row _ _ _ _ _ (0, 0) h1]; rfl
  · rw [hv.cell (by rw [hs]; show w.heap.size + 1 < _; omega), cell_of_row _ _ _ _ _ (0, 0) h1]; rfl
  · rw [hv.cell (by rw [hs]; show w.heap.size + 1 < _; omega), cell_of_row _ _ _ _ _ (0, 0) h1]; rfl
theorem str_take (c : List UInt8) (n : Nat) : (⟨c.toArray⟩ : ByteArray).extract 0 n = ⟨(c.take n).toArray⟩ := by
  apply ByteArray.ext
  simp
theorem row_ne {a b : List UInt8} (h : ¬ a = b) : (a == b) = false ∧ (a != b) = true := by
  simp [h]
/-- neither begins with the other -/
theorem no_front {k ns nr k' ns' nr' m : Int} {p p' : Bool} (h : right k ns nr m = true) (h' : right k' ns' nr' m = true) (hne : ¬ (k, ns, nr, p) = (k', ns', nr', p')) :
    ¬ (enc k' ns' nr' p' m).take (enc k ns nr p m).length = enc k ns nr p m := fun e => hne (enc_apart h h' ((enc k' ns' nr' p' m).drop (enc k ns nr p m).length) (by
      have q := List.take_append_drop (enc k ns nr p m).length (enc k' ns' nr' p' m)
      rw [e] at q
      exact q.symm))

set_option maxHeartbeats 1000000 in
theorem apart_one (k ns nr : Int) (p : Bool) (k' ns' nr' : Int) (p' : Bool) (wide : Bool) (m : Int) (hM : m = (if wide = true then 32768 else 128)) (w : World) :
    Calls Try.prog 5 #[.agg #[.int .i64 k, .int .i64 ns, .int .i64 nr, .bool p], .agg #[.int .i64 k', .int .i64 ns', .int .i64 nr', .bool p'], .bool wide] w fun e w' => e = .returned (.bool true) ∧ Below w.heap.size w w' := by
  have BX := Lib.hid (both_of w k ns nr p k' ns' nr' p')
  have bb := (boxed_below w k ns nr p).trans ((boxed_below (boxed w k ns nr p) k' ns' nr' p').mono (boxed_below w k ns nr p).size)
  have HB := Lib.hid bb
  have AC := alive_calls (boxed (boxed w k ns nr p) k' ns' nr' p')
  clear bb
  obtain ⟨V, hV⟩ : ∃ V, (w.alloc (.cells #[.int .i64 k, .int .i64 ns, .int .i64 nr, .bool p] 23)).alloc (.cells #[.int .i64 k', .int .i64 ns', .int .i64 nr', .bool p'] 23) = V := ⟨_, rfl⟩
  unfold boxed at AC BX HB
  rw [hV] at AC
  rw [hV] at BX HB
  obtain ⟨R, hR⟩ : ∃ R, right k ns nr m = R := ⟨_, rfl⟩
  obtain ⟨R', hR'⟩ : ∃ R, right k' ns' nr' m = R := ⟨_, rfl⟩
  obtain ⟨E, hE⟩ : ∃ E, enc k ns nr p m = E := ⟨_, rfl⟩
  obtain ⟨E', hE'⟩ : ∃ E, enc k' ns' nr' p' m = E := ⟨_, rfl⟩
  have HQ := Lib.hid hR
  have HQ' := Lib.hid hR'
  have HE := Lib.hid hE
  have HE' := Lib.hid hE'
  have R1 := fun v => rightR_calls k ns nr p m v
  have R2 := fun v => rightR_calls k' ns' nr' p' m v
  have B1 := fun v => bytes_calls k ns nr p m v
  have B2 := fun v => bytes_calls k' ns' nr' p' m v
  have e4 : E.length ≤ 4 := by rw [← hE]; exact enc_len k ns nr p m
  have e4' : E'.length ≤ 4 := by rw [← hE']; exact enc_len k' ns' nr' p' m
  rw [hR] at R1
  rw [hR'] at R2
  rw [hE] at B1
  rw [hE'] at B2
  clear hR hR' hE hE'
  cases wide
  all_goals
    first | rw [if_pos rfl] at hM | rw [if_neg (by decide)] at hM
    subst hM
    cases R
    · go_enter Try.func5, Try.ntmps5
      go_wp2_with fail
      refine AC.mono ?_
      rintro e W ⟨rfl, hb⟩
      clear hV AC
      obtain ⟨⟨x0, x1, x2, x3⟩, -⟩ := BX.out W hb
      have FB := HB.out.trans (hb.mono HB.out.size)
      clear hb
      go_wp2_with fail
      refine (R1 _).mono ?_
      rintro e w1 ⟨rfl, hw1⟩
      have b1 := boxed_below W k ns nr p
      rw [hw1] at b1
      have F1 := FB.trans (b1.mono FB.size)
      clear hw1 b1 x0 x1 x2 x3 FB
      go_wp2
      go_ret
      exact ⟨rfl, F1⟩
    · cases R'
      · go_enter Try.func5, Try.ntmps5
        go_wp2_with fail
        refine AC.mono ?_
        rintro e W ⟨rfl, hb⟩
        clear hV AC
        obtain ⟨⟨x0, x1, x2, x3⟩, -⟩ := BX.out W hb
        have HW := Lib.hid hb
        clear hb
        go_wp2_with fail
        refine (R1 _).mono ?_
        rintro e w1 ⟨rfl, hw1⟩
        have b1 := boxed_below W k ns nr p
        rw [hw1] at b1
        have HW1 := Lib.hid (HW.out.trans (b1.mono HW.out.size))
        clear hw1 b1 x0 x1 x2 x3
        obtain ⟨-, ⟨x0, x1, x2, x3⟩⟩ := BX.out w1 HW1.out
        go_wp2_with fail
        refine (R2 _).mono ?_
        rintro e w2 ⟨rfl, hw2⟩
        have b2 := boxed_below w1 k' ns' nr' p'
        rw [hw2] at b2
        have F2 := HB.out.trans ((HW1.out.trans (b2.mono HW1.out.size)).mono HB.out.size)
        clear hw2 b2 x0 x1 x2 x3
        go_wp2
        go_ret
        exact ⟨rfl, F2⟩
      · go_enter Try.func5, Try.ntmps5
        go_wp2_with fail
        refine AC.mono ?_
        rintro e W ⟨rfl, hb⟩
        clear hV AC
        obtain ⟨⟨x0, x1, x2, x3⟩, -⟩ := BX.out W hb
        have HW := Lib.hid hb
        clear hb
        go_wp2_with fail
        refine (R1 _).mono ?_
        rintro e w1 ⟨rfl, hw1⟩
        have b1 := boxed_below W k ns nr p
        rw [hw1] at b1
        have HW1 := Lib.hid (HW.out.trans (b1.mono HW.out.size))
        clear hw1 b1 x0 x1 x2 x3
        obtain ⟨-, ⟨x0, x1, x2, x3⟩⟩ := BX.out w1 HW1.out
        go_wp2_with fail
        refine (R2 _).mono ?_
        rintro e w2 ⟨rfl, hw2⟩
        have b2 := boxed_below w1 k' ns' nr' p'
        rw [hw2] at b2
        have HW2 := Lib.hid (HW1.out.trans (b2.mono HW1.out.size))
        clear hw2 b2 x0 x1 x2 x3
        obtain ⟨⟨x0, x1, x2, x3⟩, -⟩ := BX.out w2 HW2.out
        go_wp2_with fail
        refine (B1 _).mono ?_
        rintro e w3 ⟨A3, c3, rfl, rd3, bel3⟩
        have HW3 := Lib.hid (HW2.out.trans (bel3.mono HW2.out.size))
        have q3 := run_conv w3 A3 c3 E rd3
        unfold strV at q3
        clear x0 x1 x2 x3 rd3 bel3
        obtain ⟨-, ⟨x0, x1, x2, x3⟩⟩ := BX.out w3 HW3.out
        go_wp2_with fail
        refine (B2 _).mono ?_
        rintro e w4 ⟨A4, c4, rfl, rd4, bel4⟩
        have HW4 := Lib.hid (HW3.out.trans (bel4.mono HW3.out.size))
        have q4 := run_conv w4 A4 c4 E' rd4
        unfold strV at q4
        clear x0 x1 x2 x3 rd4 bel4 q3
        obtain ⟨⟨x0, x1, x2, x3⟩, ⟨y0, y1, y2, y3⟩⟩ := BX.out w4 HW4.out
        have F4 := Lib.hid (HB.out.trans (HW4.out.mono HB.out.size))
        have gd := ctlGuard
        have qe := fun v => ctl_eql v k ns nr k' ns' nr' p p'
        clear R1 R2 B1 B2
        by_cases hq : (k, ns, nr, p) = (k', ns', nr', p')
        · simp only [Prod.mk.injEq] at hq
          obtain ⟨rfl, rfl, rfl, rfl⟩ := hq
          have hEE : E = E' := HE.out.symm.trans HE'.out
          subst hEE
          have qe' : ∀ v, (binOp .eql 23 (.agg #[.int .i64 k, .int .i64 ns, .int .i64 nr, .bool p]) (.agg #[.int .i64 k, .int .i64 ns, .int .i64 nr, .bool p])).run Try.prog v = .ok (.bool true) v := fun v => by
            rw [qe]
            simp
          clear qe
          go_wp2
          go_ret
          exact ⟨by first | rfl | simp, F4.out⟩
        · have hb : (k == k' && (ns == ns' && (nr == nr' && p == p'))) = false := by
            cases h : (k == k' && (ns == ns' && (nr == nr' && p == p')))
            · rfl
            · exact absurd (by simpa using h) hq
          have qe' : ∀ v, (binOp .eql 23 (.agg #[.int .i64 k, .int .i64 ns, .int .i64 nr, .bool p]) (.agg #[.int .i64 k', .int .i64 ns', .int .i64 nr', .bool p'])).run Try.prog v = .ok (.bool false) v := fun v => by
            rw [qe, hb]
          have p1 : 0 < E.length := by rw [← HE.out]; exact enc_pos HQ.out
          have p2 : 0 < E'.length := by rw [← HE'.out]; exact enc_pos HQ'.out
          have f1 : ¬ E'.take E.length = E := by rw [← HE.out, ← HE'.out]; exact no_front HQ.out HQ'.out hq
          have f2 : ¬ E.take E'.length = E' := by rw [← HE.out, ← HE'.out]; exact no_front HQ'.out HQ.out (fun e => hq e.symm)
          have s1 := str_take E' E.length
          have s2 := str_take E E'.length
          generalize E'.take E.length = T1 at *
          generalize E.take E'.length = T2 at *
          obtain ⟨n1, n1'⟩ := row_ne f1
          obtain ⟨n2, n2'⟩ := row_ne f2
          have p1z : (0 : Int) < (E.length : Int) := by omega
          have p2z : (0 : Int) < (E'.length : Int) := by omega
          have F1 := Lib.hid f1
          have F2 := Lib.hid f2
          clear qe hb hq f1 f2
          have hl : E.length < E'.length ∨ E.length = E'.length ∨ E'.length < E.length := by omega
          rcases hl with hl | hl | hl
          · have z1 : decide ((E'.length : Int) < (E.length : Int)) = false := decide_eq_false (by omega)
            have z1' : decide (E'.length < E.length) = false := decide_eq_false (by omega)
            have z2 : decide ((E.length : Int) < (E'.length : Int)) = true := decide_eq_true (by omega)
            have z2' : decide (E.length < E'.length) = true := decide_eq_true (by omega)
            have z3 : (E.length : Int) ≤ (E'.length : Int) := by omega
            go_wp2
            go_ret
            exact ⟨by first | rfl | (simp; done) | (simp [F1.out]; done), F4.out⟩
          · have z1 : decide ((E'.length : Int) < (E.length : Int)) = false := decide_eq_false (by omega)
            have z1' : decide (E'.length < E.length) = false := decide_eq_false (by omega)
            have z2 : decide ((E.length : Int) < (E'.length : Int)) = false := decide_eq_false (by omega)
            have z2' : decide (E.length < E'.length) = false := decide_eq_false (by omega)
            have z3 : (E.length : Int) ≤ (E'.length : Int) := by omega
            have z4 : (E'.length : Int) ≤ (E.length : Int) := by omega
            clear hl
            go_wp2
            go_ret
            exact ⟨by first | rfl | (simp; done) | (simp [F1.out, F2.out]; done), F4.out⟩
          · have z1 : decide ((E'.length : Int) < (E.length : Int)) = true := decide_eq_true (by omega)
            have z1' : decide (E'.length < E.length) = true := decide_eq_true (by omega)
            have z2 : decide ((E.length : Int) < (E'.length : Int)) = false := decide_eq_false (by omega)
            have z2' : decide (E.length < E'.length) = false := decide_eq_false (by omega)
            have z4 : (E'.length : Int) ≤ (E.length : Int) := by omega
            go_wp2
            go_ret
            exact ⟨by first | rfl | (simp; done) | (simp [F2.out]; done), F4.out⟩
theorem ControlApart_walk (k0 s0 r0 : Int) (q0 : Bool) (k1 s1 r1 : Int) (q1 : Bool) (a2 : Bool) (w0 : CtlWf k0 s0 r0) (w1 : CtlWf k1 s1 r1) (w : World) :
    Calls Try.prog 5 #[.agg #[.int .i64 k0, .int .i64 s0, .int .i64 r0, .bool q0], .agg #[.int .i64 k1, .int .i64 s1, .int .i64 r1, .bool q1], .bool a2] w fun e w' => e = .returned (.bool true) ∧ Below w.heap.size w w' :=
  apart_one k0 s0 r0 q0 k1 s1 r1 q1 a2 _ rfl w
end Go.Proofs.Ythakcaofihacdaa

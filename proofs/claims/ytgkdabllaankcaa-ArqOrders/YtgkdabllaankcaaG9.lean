/- Package arq walked, part 9 of 15 (merged texts: AqProc2, CtlKind). No condition. -/
import Derived.Test.YtgkdabllaankcaaG8
import Derived.Test.YtgkdabllaankcaaG4
import Derived.Deep.LoopGhost
import Derived.BigQuiet
import Derived.OwnWalk
/- process of an end of a session, second part: a CDM, a CI, CRR, CREJ; all kinds. (Written by gen_aqproc.py.) -/
namespace Go.Proofs.Ytgkdabllaankcaa
open Go.RowKit
set_option linter.unusedVariables false

section
variable {w : World} {F : Nat → Prop} {b : Nat} {s : Aq} {k ns nr : Int} {p : Bool} {X : Option Addr} {e : Nat}
set_option maxRecDepth 20000 in
set_option maxHeartbeats 4000000 in
theorem aqProc_dmAs (h : AqP w F b s) (hr : s.Room) {t : Nat} (ht : t < 65536) (n : Nat) (hs : t = s.tg) (hst : s.st = 1) (ha : s.ahead t = true) :
    Calls Try.prog 40 #[.pointer (some ⟨b, 0, none⟩), rvv t 6 ns nr p X n e] w fun r w' => r = .returned (.tuple #[]) ∧ AqTurn F b ((s.setTg t).fin) w w' := by
  obtain ⟨W0, hW0⟩ : ∃ W0, rvW w t 6 ns nr p X n e = W0 := ⟨_, rfl⟩
  have be0 : Below w.heap.size w W0 := by rw [← hW0]; exact rv_below
  have h0 := h.below be0
  have hlt := h.lt
  have kp : ∀ V, Only F W0 V → V.heap[w.heap.size]? = some (.cells (rvc t 6 ns nr p X n e) 75 (0, 0)) := fun V on => rv_keep hlt (by rw [hW0]; exact on)
  obtain ⟨d0, d1, d2, d3, d4, d5⟩ := rv_cells (kp W0 (Only.refl _ _))
  have c4 := h0.c4
  have c5 := h0.c5
  have z5 := h0.z 5
  have ho1 := hr.os
  have ho2 := hr.is
  have ho3 := hr.lo
  have TR := Lib.hid (fun q : Nat => ((AqTurn.refl h0).after be0 hlt).drewN q)
  have FC := Lib.hid (show ∀ (s1 : Aq), s1.lo ≤ 1000000000000 → s1.is.length ≤ 1000000 → ∀ v, AqTurn F b s1 W0 v → Calls Try.prog 48 #[.pointer (some ⟨b, 0, none⟩)] v fun r w' => r = .returned (.tuple #[]) ∧ AqTurn F b s1.fin w w' from fun s1 h1 h2 v T => (aqFin_calls T.1 h1 h2).mono (fun r w' hh => ⟨hh.1, (T.trans hh.2).after be0 hlt⟩))
  have HQ := Lib.hid (fun q : Nat => (AqTurn.refl h0).drewN q)
  have AH := fun q : Nat => aqAhead_calls (h0.drewN q) ht
  rw [ha] at AH
  have HG := Lib.hid (fun q => (HQ.out q).thenTg ht)
  have gs : ((t : Int) == (s.tg : Int)) = true := by rw [hs]; simp
  have hsh := Lib.hid hs
  clear hs
  rw [hst] at c4
  clear hst
  clear ha
  clear h h0 hr kp be0 hlt
  unfold rvv rvc
  unfold rvW rvc at hW0
  go_enter Try.func40, Try.ntmps40
  go_wp2_with fail
  refine wp_scope_two 1 5 (by decide) (PrJ (fun v => ∃ q : Nat, v = W0.drewN q) b w.heap.size (.agg #[.int .i64 (t : Int), .int .i64 6, .int .i64 ns, .int .i64 nr, .bool p, .slice X n e]) true) (PrJ (fun v => AqTurn F b (s.setTg t) W0 v) b w.heap.size (.agg #[.int .i64 (t : Int), .int .i64 6, .int .i64 ns, .int .i64 nr, .bool p, .slice X n e]) true) ?_ ?_ ?_
  · go_wp2_with fail
    go_quiet (fail)
    go_wp2
    go_step3
    exact ⟨rfl, ⟨_, rfl⟩, prf_mk rfl⟩
  · rintro a w' ⟨⟨q, rfl⟩, u, rfl⟩
    unfold prf
    refine ⟨_, rfl, ?_⟩
    go_wp2_with fail
    refine (AH _).mono ?_
    rintro e1 w1 ⟨rfl, hv⟩
    obtain rfl := hv.symm
    clear AH
    go_wp2
    go_step3
    exact ⟨rfl, HG.out _, prf_mk rfl⟩
  · rintro a w' ⟨T, u, rfl⟩
    unfold prf
    refine ⟨_, rfl, ?_⟩
    have FF := FC.out (s.setTg t) (by show s.lo ≤ _; omega) (by show s.is.length ≤ _; omega) w' T
    clear T
    go_wp2_with fail
    refine FF.mono ?_
    rintro e9 w9 ⟨rfl, T9⟩
    have FI := Lib.hid T9
    clear T9 FF
    go_wp2
    simp only [jumps]
    go_end0
    exact ⟨rfl, FI.out⟩

set_option maxRecDepth 20000 in
set_option maxHeartbeats 4000000 in
theorem aqProc_dmAn (h : AqP w F b s) (hr : s.Room) {t : Nat} (ht : t < 65536) (n : Nat) (hs : t ≠ s.tg) (hst : s.st = 1) (ha : s.ahead t = true) :
    Calls Try.prog 40 #[.pointer (some ⟨b, 0, none⟩), rvv t 6 ns nr p X n e] w fun r w' => r = .returned (.tuple #[]) ∧ AqTurn F b ((s.setTg t).fin) w w' := by
  obtain ⟨W0, hW0⟩ : ∃ W0, rvW w t 6 ns nr p X n e = W0 := ⟨_, rfl⟩
  have be0 : Below w.heap.size w W0 := by rw [← hW0]; exact rv_below
  have h0 := h.below be0
  have hlt := h.lt
  have kp : ∀ V, Only F W0 V → V.heap[w.heap.size]? = some (.cells (rvc t 6 ns nr p X n e) 75 (0, 0)) := fun V on => rv_keep hlt (by rw [hW0]; exact on)
  obtain ⟨d0, d1, d2, d3, d4, d5⟩ := rv_cells (kp W0 (Only.refl _ _))
  have c4 := h0.c4
  have c5 := h0.c5
  have z5 := h0.z 5
  have ho1 := hr.os
  have ho2 := hr.is
  have ho3 := hr.lo
  have TR := Lib.hid (fun q : Nat => ((AqTurn.refl h0).after be0 hlt).drewN q)
  have FC := Lib.hid (show ∀ (s1 : Aq), s1.lo ≤ 1000000000000 → s1.is.length ≤ 1000000 → ∀ v, AqTurn F b s1 W0 v → Calls Try.prog 48 #[.pointer (some ⟨b, 0, none⟩)] v fun r w' => r = .returned (.tuple #[]) ∧ AqTurn F b s1.fin w w' from fun s1 h1 h2 v T => (aqFin_calls T.1 h1 h2).mono (fun r w' hh => ⟨hh.1, (T.trans hh.2).after be0 hlt⟩))
  have HQ := Lib.hid (fun q : Nat => (AqTurn.refl h0).drewN q)
  have AH := fun q : Nat => aqAhead_calls (h0.drewN q) ht
  rw [ha] at AH
  have HG := Lib.hid (fun q => (HQ.out q).thenTg ht)
  have gs : ((t : Int) == (s.tg : Int)) = false := beq_eq_false_iff_ne.2 (by omega)
  clear hs
  rw [hst] at c4
  clear hst
  clear ha
  clear h h0 hr kp be0 hlt
  unfold rvv rvc
  unfold rvW rvc at hW0
  go_enter Try.func40, Try.ntmps40
  go_wp2_with fail
  refine wp_scope_two 1 5 (by decide) (PrJ (fun v => ∃ q : Nat, v = W0.drewN q) b w.heap.size (.agg #[.int .i64 (t : Int), .int .i64 6, .int .i64 ns, .int .i64 nr, .bool p, .slice X n e]) false) (PrJ (fun v => AqTurn F b (s.setTg t) W0 v) b w.heap.size (.agg #[.int .i64 (t : Int), .int .i64 6, .int .i64 ns, .int .i64 nr, .bool p, .slice X n e]) true) ?_ ?_ ?_
  · go_wp2_with fail
    go_quiet (fail)
    go_wp2
    go_step3
    exact ⟨rfl, ⟨_, rfl⟩, prf_mk rfl⟩
  · rintro a w' ⟨⟨q, rfl⟩, u, rfl⟩
    unfold prf
    refine ⟨_, rfl, ?_⟩
    go_wp2_with fail
    refine (AH _).mono ?_
    rintro e1 w1 ⟨rfl, hv⟩
    obtain rfl := hv.symm
    clear AH
    go_wp2
    go_step3
    exact ⟨rfl, HG.out _, prf_mk rfl⟩
  · rintro a w' ⟨T, u, rfl⟩
    unfold prf
    refine ⟨_, rfl, ?_⟩
    have FF := FC.out (s.setTg t) (by show s.lo ≤ _; omega) (by show s.is.length ≤ _; omega) w' T
    clear T
    go_wp2_with fail
    refine FF.mono ?_
    rintro e9 w9 ⟨rfl, T9⟩
    have FI := Lib.hid T9
    clear T9 FF
    go_wp2
    simp only [jumps]
    go_end0
    exact ⟨rfl, FI.out⟩

set_option maxRecDepth 20000 in
set_option maxHeartbeats 4000000 in
theorem aqProc_dmB (h : AqP w F b s) (hr : s.Room) {t : Nat} (ht : t < 65536) (n : Nat) (hs : t = s.tg) (hst : s.st = 1) (ha : s.ahead t = false) :
    Calls Try.prog 40 #[.pointer (some ⟨b, 0, none⟩), rvv t 6 ns nr p X n e] w fun r w' => r = .returned (.tuple #[]) ∧ AqTurn F b (s.fin) w w' := by
  obtain ⟨W0, hW0⟩ : ∃ W0, rvW w t 6 ns nr p X n e = W0 := ⟨_, rfl⟩
  have be0 : Below w.heap.size w W0 := by rw [← hW0]; exact rv_below
  have h0 := h.below be0
  have hlt := h.lt
  have kp : ∀ V, Only F W0 V → V.heap[w.heap.size]? = some (.cells (rvc t 6 ns nr p X n e) 75 (0, 0)) := fun V on => rv_keep hlt (by rw [hW0]; exact on)
  obtain ⟨d0, d1, d2, d3, d4, d5⟩ := rv_cells (kp W0 (Only.refl _ _))
  have c4 := h0.c4
  have c5 := h0.c5
  have z5 := h0.z 5
  have ho1 := hr.os
  have ho2 := hr.is
  have ho3 := hr.lo
  have TR := Lib.hid (fun q : Nat => ((AqTurn.refl h0).after be0 hlt).drewN q)
  have FC := Lib.hid (show ∀ (s1 : Aq), s1.lo ≤ 1000000000000 → s1.is.length ≤ 1000000 → ∀ v, AqTurn F b s1 W0 v → Calls Try.prog 48 #[.pointer (some ⟨b, 0, none⟩)] v fun r w' => r = .returned (.tuple #[]) ∧ AqTurn F b s1.fin w w' from fun s1 h1 h2 v T => (aqFin_calls T.1 h1 h2).mono (fun r w' hh => ⟨hh.1, (T.trans hh.2).after be0 hlt⟩))
  have HQ := Lib.hid (fun q : Nat => (AqTurn.refl h0).drewN q)
  have AH := fun q : Nat => aqAhead_calls (h0.drewN q) ht
  rw [ha] at AH
  have gs : ((t : Int) == (s.tg : Int)) = true := by rw [hs]; simp
  have hsh := Lib.hid hs
  clear hs
  rw [hst] at c4
  clear hst
  clear ha
  clear h h0 hr kp be0 hlt
  unfold rvv rvc
  unfold rvW rvc at hW0
  go_enter Try.func40, Try.ntmps40
  go_wp2_with fail
  refine wp_scope_two 1 5 (by decide) (PrJ (fun v => ∃ q : Nat, v = W0.drewN q) b w.heap.size (.agg #[.int .i64 (t : Int), .int .i64 6, .int .i64 ns, .int .i64 nr, .bool p, .slice X n e]) true) (PrJ (fun v => AqTurn F b s W0 v) b w.heap.size (.agg #[.int .i64 (t : Int), .int .i64 6, .int .i64 ns, .int .i64 nr, .bool p, .slice X n e]) true) ?_ ?_ ?_
  · go_wp2_with fail
    go_quiet (fail)
    go_wp2
    go_step3
    exact ⟨rfl, ⟨_, rfl⟩, prf_mk rfl⟩
  · rintro a w' ⟨⟨q, rfl⟩, u, rfl⟩
    unfold prf
    refine ⟨_, rfl, ?_⟩
    go_wp2_with fail
    refine (AH _).mono ?_
    rintro e1 w1 ⟨rfl, hv⟩
    obtain rfl := hv.symm
    clear AH
    go_wp2
    go_step3
    exact ⟨rfl, HQ.out _, prf_mk rfl⟩
  · rintro a w' ⟨T, u, rfl⟩
    unfold prf
    refine ⟨_, rfl, ?_⟩
    have FF := FC.out s (by omega) (by omega) w' T
    clear T
    go_wp2_with fail
    refine FF.mono ?_
    rintro e9 w9 ⟨rfl, T9⟩
    have FI := Lib.hid T9
    clear T9 FF
    go_wp2
    simp only [jumps]
    go_end0
    exact ⟨rfl, FI.out⟩

set_option maxRecDepth 20000 in
set_option maxHeartbeats 4000000 in
theorem aqProc_dmC (h : AqP w F b s) (hr : s.Room) {t : Nat} (ht : t < 65536) (n : Nat) (hs : t ≠ s.tg) (hst : s.st = 1) (ha : s.ahead t = false) :
    Calls Try.prog 40 #[.pointer (some ⟨b, 0, none⟩), rvv t 6 ns nr p X n e] w fun r w' => r = .returned (.tuple #[]) ∧ AqTurn F b (s) w w' := by
  obtain ⟨W0, hW0⟩ : ∃ W0, rvW w t 6 ns nr p X n e = W0 := ⟨_, rfl⟩
  have be0 : Below w.heap.size w W0 := by rw [← hW0]; exact rv_below
  have h0 := h.below be0
  have hlt := h.lt
  have kp : ∀ V, Only F W0 V → V.heap[w.heap.size]? = some (.cells (rvc t 6 ns nr p X n e) 75 (0, 0)) := fun V on => rv_keep hlt (by rw [hW0]; exact on)
  obtain ⟨d0, d1, d2, d3, d4, d5⟩ := rv_cells (kp W0 (Only.refl _ _))
  have c4 := h0.c4
  have c5 := h0.c5
  have z5 := h0.z 5
  have ho1 := hr.os
  have ho2 := hr.is
  have ho3 := hr.lo
  have TR := Lib.hid (fun q : Nat => ((AqTurn.refl h0).after be0 hlt).drewN q)
  have FC := Lib.hid (show ∀ (s1 : Aq), s1.lo ≤ 1000000000000 → s1.is.length ≤ 1000000 → ∀ v, AqTurn F b s1 W0 v → Calls Try.prog 48 #[.pointer (some ⟨b, 0, none⟩)] v fun r w' => r = .returned (.tuple #[]) ∧ AqTurn F b s1.fin w w' from fun s1 h1 h2 v T => (aqFin_calls T.1 h1 h2).mono (fun r w' hh => ⟨hh.1, (T.trans hh.2).after be0 hlt⟩))
  have HQ := Lib.hid (fun q : Nat => (AqTurn.refl h0).drewN q)
  have AH := fun q : Nat => aqAhead_calls (h0.drewN q) ht
  rw [ha] at AH
  have gs : ((t : Int) == (s.tg : Int)) = false := beq_eq_false_iff_ne.2 (by omega)
  clear hs
  rw [hst] at c4
  clear hst
  clear ha
  clear h h0 hr kp be0 hlt
  unfold rvv rvc
  unfold rvW rvc at hW0
  go_enter Try.func40, Try.ntmps40
  go_wp2_with fail
  refine wp_scope_two 1 9 (by decide) (PrJ (fun v => ∃ q : Nat, v = W0.drewN q) b w.heap.size (.agg #[.int .i64 (t : Int), .int .i64 6, .int .i64 ns, .int .i64 nr, .bool p, .slice X n e]) false) (fun _ _ => False) ?_ ?_ ?_
  · go_wp2_with fail
    go_quiet (fail)
    go_wp2
    go_step3
    exact ⟨rfl, ⟨_, rfl⟩, prf_mk rfl⟩
  · rintro a w' ⟨⟨q, rfl⟩, u, rfl⟩
    unfold prf
    refine ⟨_, rfl, ?_⟩
    go_wp2_with fail
    refine (AH _).mono ?_
    rintro e1 w1 ⟨rfl, hv⟩
    obtain rfl := hv.symm
    clear AH
    go_wp2
    rw [jumps_ret]
    refine bodyPost_ret (results_none rfl _ _ _) rfl ?_
    exact ⟨rfl, TR.out _⟩
  · exact fun _ _ h => h.elim
set_option maxRecDepth 20000 in
set_option maxHeartbeats 4000000 in
theorem aqProc_dmD (h : AqP w F b s) (hr : s.Room) {t : Nat} (ht : t < 65536) (n : Nat) (hs : t = s.tg) (hst : s.st ≠ 0 ∧ s.st ≠ 1) :
    Calls Try.prog 40 #[.pointer (some ⟨b, 0, none⟩), rvv t 6 ns nr p X n e] w fun r w' => r = .returned (.tuple #[]) ∧ AqTurn F b (s.fin) w w' := by
  obtain ⟨W0, hW0⟩ : ∃ W0, rvW w t 6 ns nr p X n e = W0 := ⟨_, rfl⟩
  have be0 : Below w.heap.size w W0 := by rw [← hW0]; exact rv_below
  have h0 := h.below be0
  have hlt := h.lt
  have kp : ∀ V, Only F W0 V → V.heap[w.heap.size]? = some (.cells (rvc t 6 ns nr p X n e) 75 (0, 0)) := fun V on => rv_keep hlt (by rw [hW0]; exact on)
  obtain ⟨d0, d1, d2, d3, d4, d5⟩ := rv_cells (kp W0 (Only.refl _ _))
  have c4 := h0.c4
  have c5 := h0.c5
  have z5 := h0.z 5
  have ho1 := hr.os
  have ho2 := hr.is
  have ho3 := hr.lo
  have TR := Lib.hid (fun q : Nat => ((AqTurn.refl h0).after be0 hlt).drewN q)
  have FC := Lib.hid (show ∀ (s1 : Aq), s1.lo ≤ 1000000000000 → s1.is.length ≤ 1000000 → ∀ v, AqTurn F b s1 W0 v → Calls Try.prog 48 #[.pointer (some ⟨b, 0, none⟩)] v fun r w' => r = .returned (.tuple #[]) ∧ AqTurn F b s1.fin w w' from fun s1 h1 h2 v T => (aqFin_calls T.1 h1 h2).mono (fun r w' hh => ⟨hh.1, (T.trans hh.2).after be0 hlt⟩))
  have HQ := Lib.hid (fun q : Nat => (AqTurn.refl h0).drewN q)
  have gs : ((t : Int) == (s.tg : Int)) = true := by rw [hs]; simp
  have hsh := Lib.hid hs
  clear hs
  have g0 : ((s.st : Int) == 0) = false := beq_eq_false_iff_ne.2 (by omega)
  have m0 : ((s.st : Int) != 0) = true := by simp; omega
  have g1 : ((s.st : Int) == 1) = false := beq_eq_false_iff_ne.2 (by omega)
  have m1 : ((s.st : Int) != 1) = true := by simp; omega
  clear hst
  clear h h0 hr kp be0 hlt
  unfold rvv rvc
  unfold rvW rvc at hW0
  go_enter Try.func40, Try.ntmps40
  go_wp2_with fail
  refine wp_scope_two 1 5 (by decide) (PrJ (fun v => ∃ q : Nat, v = W0.drewN q) b w.heap.size (.agg #[.int .i64 (t : Int), .int .i64 6, .int .i64 ns, .int .i64 nr, .bool p, .slice X n e]) true) (PrJ (fun v => AqTurn F b s W0 v) b w.heap.size (.agg #[.int .i64 (t : Int), .int .i64 6, .int .i64 ns, .int .i64 nr, .bool p, .slice X n e]) true) ?_ ?_ ?_
  · go_wp2_with fail
    go_quiet (fail)
    go_wp2
    go_step3
    exact ⟨rfl, ⟨_, rfl⟩, prf_mk rfl⟩
  · rintro a w' ⟨⟨q, rfl⟩, u, rfl⟩
    unfold prf
    refine ⟨_, rfl, ?_⟩
    go_wp2
    go_step3
    exact ⟨rfl, HQ.out _, prf_mk rfl⟩
  · rintro a w' ⟨T, u, rfl⟩
    unfold prf
    refine ⟨_, rfl, ?_⟩
    have FF := FC.out s (by omega) (by omega) w' T
    clear T
    go_wp2_with fail
    refine FF.mono ?_
    rintro e9 w9 ⟨rfl, T9⟩
    have FI := Lib.hid T9
    clear T9 FF
    go_wp2
    simp only [jumps]
    go_end0
    exact ⟨rfl, FI.out⟩

set_option maxRecDepth 20000 in
set_option maxHeartbeats 4000000 in
theorem aqProc_dmE (h : AqP w F b s) (hr : s.Room) {t : Nat} (ht : t < 65536) (n : Nat) (hs : t = s.tg) (hst : s.st = 0) :
    Calls Try.prog 40 #[.pointer (some ⟨b, 0, none⟩), rvv t 6 ns nr p X n e] w fun r w' => r = .returned (.tuple #[]) ∧ AqTurn F b (s) w w' := by
  obtain ⟨W0, hW0⟩ : ∃ W0, rvW w t 6 ns nr p X n e = W0 := ⟨_, rfl⟩
  have be0 : Below w.heap.size w W0 := by rw [← hW0]; exact rv_below
  have h0 := h.below be0
  have hlt := h.lt
  have kp : ∀ V, Only F W0 V → V.heap[w.heap.size]? = some (.cells (rvc t 6 ns nr p X n e) 75 (0, 0)) := fun V on => rv_keep hlt (by rw [hW0]; exact on)
  obtain ⟨d0, d1, d2, d3, d4, d5⟩ := rv_cells (kp W0 (Only.refl _ _))
  have c4 := h0.c4
  have c5 := h0.c5
  have z5 := h0.z 5
  have ho1 := hr.os
  have ho2 := hr.is
  have ho3 := hr.lo
  have TR := Lib.hid (fun q : Nat => ((AqTurn.refl h0).after be0 hlt).drewN q)
  have FC := Lib.hid (show ∀ (s1 : Aq), s1.lo ≤ 1000000000000 → s1.is.length ≤ 1000000 → ∀ v, AqTurn F b s1 W0 v → Calls Try.prog 48 #[.pointer (some ⟨b, 0, none⟩)] v fun r w' => r = .returned (.tuple #[]) ∧ AqTurn F b s1.fin w w' from fun s1 h1 h2 v T => (aqFin_calls T.1 h1 h2).mono (fun r w' hh => ⟨hh.1, (T.trans hh.2).after be0 hlt⟩))
  have HQ := Lib.hid (fun q : Nat => (AqTurn.refl h0).drewN q)
  have gs : ((t : Int) == (s.tg : Int)) = true := by rw [hs]; simp
  have hsh := Lib.hid hs
  clear hs
  rw [hst] at c4
  clear hst
  clear h h0 hr kp be0 hlt
  unfold rvv rvc
  unfold rvW rvc at hW0
  go_enter Try.func40, Try.ntmps40
  go_wp2_with fail
  refine wp_scope_two 1 9 (by decide) (PrJ (fun v => ∃ q : Nat, v = W0.drewN q) b w.heap.size (.agg #[.int .i64 (t : Int), .int .i64 6, .int .i64 ns, .int .i64 nr, .bool p, .slice X n e]) true) (fun _ _ => False) ?_ ?_ ?_
  · go_wp2_with fail
    go_quiet (fail)
    go_wp2
    go_step3
    exact ⟨rfl, ⟨_, rfl⟩, prf_mk rfl⟩
  · rintro a w' ⟨⟨q, rfl⟩, u, rfl⟩
    unfold prf
    refine ⟨_, rfl, ?_⟩
    go_wp2
    rw [jumps_ret]
    refine bodyPost_ret (results_none rfl _ _ _) rfl ?_
    exact ⟨rfl, TR.out _⟩
  · exact fun _ _ h => h.elim
set_option maxRecDepth 20000 in
set_option maxHeartbeats 4000000 in
theorem aqProc_dmF (h : AqP w F b s) (hr : s.Room) {t : Nat} (ht : t < 65536) (n : Nat) (hs : t ≠ s.tg) (hst : s.st ≠ 1) :
    Calls Try.prog 40 #[.pointer (some ⟨b, 0, none⟩), rvv t 6 ns nr p X n e] w fun r w' => r = .returned (.tuple #[]) ∧ AqTurn F b (s) w w' := by
  obtain ⟨W0, hW0⟩ : ∃ W0, rvW w t 6 ns nr p X n e = W0 := ⟨_, rfl⟩
  have be0 : Below w.heap.size w W0 := by rw [← hW0]; exact rv_below
  have h0 := h.below be0
  have hlt := h.lt
  have kp : ∀ V, Only F W0 V → V.heap[w.heap.size]? = some (.cells (rvc t 6 ns nr p X n e) 75 (0, 0)) := fun V on => rv_keep hlt (by rw [hW0]; exact on)
  obtain ⟨d0, d1, d2, d3, d4, d5⟩ := rv_cells (kp W0 (Only.refl _ _))
  have c4 := h0.c4
  have c5 := h0.c5
  have z5 := h0.z 5
  have ho1 := hr.os
  have ho2 := hr.is
  have ho3 := hr.lo
  have TR := Lib.hid (fun q : Nat => ((AqTurn.refl h0).after be0 hlt).drewN q)
  have FC := Lib.hid (show ∀ (s1 : Aq), s1.lo ≤ 1000000000000 → s1.is.length ≤ 1000000 → ∀ v, AqTurn F b s1 W0 v → Calls Try.prog 48 #[.pointer (some ⟨b, 0, none⟩)] v fun r w' => r = .returned (.tuple #[]) ∧ AqTurn F b s1.fin w w' from fun s1 h1 h2 v T => (aqFin_calls T.1 h1 h2).mono (fun r w' hh => ⟨hh.1, (T.trans hh.2).after be0 hlt⟩))
  have HQ := Lib.hid (fun q : Nat => (AqTurn.refl h0).drewN q)
  have gs : ((t : Int) == (s.tg : Int)) = false := beq_eq_false_iff_ne.2 (by omega)
  clear hs
  have g1 : ((s.st : Int) == 1) = false := beq_eq_false_iff_ne.2 (by omega)
  have m1 : ((s.st : Int) != 1) = true := by simp; omega
  clear hst
  clear h h0 hr kp be0 hlt
  unfold rvv rvc
  unfold rvW rvc at hW0
  go_enter Try.func40, Try.ntmps40
  go_wp2_with fail
  refine wp_scope_two 1 9 (by decide) (PrJ (fun v => ∃ q : Nat, v = W0.drewN q) b w.heap.size (.agg #[.int .i64 (t : Int), .int .i64 6, .int .i64 ns, .int .i64 nr, .bool p, .slice X n e]) false) (fun _ _ => False) ?_ ?_ ?_
  · go_wp2_with fail
    go_quiet (fail)
    go_wp2
    go_step3
    exact ⟨rfl, ⟨_, rfl⟩, prf_mk rfl⟩
  · rintro a w' ⟨⟨q, rfl⟩, u, rfl⟩
    unfold prf
    refine ⟨_, rfl, ?_⟩
    go_wp2
    rw [jumps_ret]
    refine bodyPost_ret (results_none rfl _ _ _) rfl ?_
    exact ⟨rfl, TR.out _⟩
  · exact fun _ _ h => h.elim
set_option maxRecDepth 20000 in
set_option maxHeartbeats 4000000 in
theorem aqProc_nuAs (h : AqP w F b s) (hr : s.Room) {t : Nat} (ht : t < 65536) (n : Nat) (hk : 0 ≤ k ∧ k ≤ 2) (hs : t = s.tg) (hst : s.st = 0) :
    Calls Try.prog 40 #[.pointer (some ⟨b, 0, none⟩), rvv t k ns nr p X n e] w fun r w' => r = .returned (.tuple #[]) ∧ AqTurn F b (s.refuse t) w w' := by
  obtain ⟨W0, hW0⟩ : ∃ W0, rvW w t k ns nr p X n e = W0 := ⟨_, rfl⟩
  have be0 : Below w.heap.size w W0 := by rw [← hW0]; exact rv_below
  have h0 := h.below be0
  have hlt := h.lt
  have kp : ∀ V, Only F W0 V → V.heap[w.heap.size]? = some (.cells (rvc t k ns nr p X n e) 75 (0, 0)) := fun V on => rv_keep hlt (by rw [hW0]; exact on)
  obtain ⟨d0, d1, d2, d3, d4, d5⟩ := rv_cells (kp W0 (Only.refl _ _))
  have c4 := h0.c4
  have c5 := h0.c5
  have z5 := h0.z 5
  have ho1 := hr.os
  have ho2 := hr.is
  have ho3 := hr.lo
  have TR := Lib.hid (fun q : Nat => ((AqTurn.refl h0).after be0 hlt).drewN q)
  have FC := Lib.hid (show ∀ (s1 : Aq), s1.lo ≤ 1000000000000 → s1.is.length ≤ 1000000 → ∀ v, AqTurn F b s1 W0 v → Calls Try.prog 48 #[.pointer (some ⟨b, 0, none⟩)] v fun r w' => r = .returned (.tuple #[]) ∧ AqTurn F b s1.fin w w' from fun s1 h1 h2 v T => (aqFin_calls T.1 h1 h2).mono (fun r w' hh => ⟨hh.1, (T.trans hh.2).after be0 hlt⟩))
  have HQ := Lib.hid (fun q : Nat => (AqTurn.refl h0).drewN q)
  have C2 := pq_mono (fun q => aqPut_calls (h0.drewN q) (by omega) ht 6 0 0 false none 0 [] (Rd.nil _ _) (Nat.zero_le _)) be0 hlt
  simp only [List.length_nil] at C2
  have gk3 : (k == 3) = false := beq_eq_false_iff_ne.2 (by omega)
  have gk4 : (k == 4) = false := beq_eq_false_iff_ne.2 (by omega)
  have gk5 : (k == 5) = false := beq_eq_false_iff_ne.2 (by omega)
  have gk6 : (k == 6) = false := beq_eq_false_iff_ne.2 (by omega)
  have gk7 : (k == 7) = false := beq_eq_false_iff_ne.2 (by omega)
  clear hk
  have gs : ((t : Int) == (s.tg : Int)) = true := by rw [hs]; simp
  have hsh := Lib.hid hs
  clear hs
  rw [hst] at c4
  clear hst
  clear h h0 hr kp be0 hlt
  unfold rvv rvc
  unfold rvW rvc at hW0
  go_enter Try.func40, Try.ntmps40
  go_wp2_with fail
  refine wp_scope_two 4 9 (by decide) (PrJ (fun v => ∃ q : Nat, v = W0.drewN q) b w.heap.size (.agg #[.int .i64 (t : Int), .int .i64 k, .int .i64 ns, .int .i64 nr, .bool p, .slice X n e]) true) (fun _ _ => False) ?_ ?_ ?_
  · go_wp2_with fail
    go_quiet (fail)
    go_wp2
    go_step3
    exact ⟨rfl, ⟨_, rfl⟩, prf_mk rfl⟩
  · rintro a w' ⟨⟨q, rfl⟩, u, rfl⟩
    unfold prf
    refine ⟨_, rfl, ?_⟩
    go_wp2_with fail
    refine (C2 _).mono ?_
    rintro e1 w1 ⟨rfl, T1⟩
    have FI := Lib.hid T1
    clear T1 C2
    go_wp2
    rw [jumps_ret]
    refine bodyPost_ret (results_none rfl _ _ _) rfl ?_
    exact ⟨rfl, FI.out⟩
  · exact fun _ _ h => h.elim
set_option maxRecDepth 20000 in
set_option maxHeartbeats 4000000 in
theorem aqProc_nuAn (h : AqP w F b s) (hr : s.Room) {t : Nat} (ht : t < 65536) (n : Nat) (hk : 0 ≤ k ∧ k ≤ 2) (hs : t ≠ s.tg) (hst : s.st = 0) :
    Calls Try.prog 40 #[.pointer (some ⟨b, 0, none⟩), rvv t k ns nr p X n e] w fun r w' => r = .returned (.tuple #[]) ∧ AqTurn F b (s.refuse t) w w' := by
  obtain ⟨W0, hW0⟩ : ∃ W0, rvW w t k ns nr p X n e = W0 := ⟨_, rfl⟩
  have be0 : Below w.heap.size w W0 := by rw [← hW0]; exact rv_below
  have h0 := h.below be0
  have hlt := h.lt
  have kp : ∀ V, Only F W0 V → V.heap[w.heap.size]? = some (.cells (rvc t k ns nr p X n e) 75 (0, 0)) := fun V on => rv_keep hlt (by rw [hW0]; exact on)
  obtain ⟨d0, d1, d2, d3, d4, d5⟩ := rv_cells (kp W0 (Only.refl _ _))
  have c4 := h0.c4
  have c5 := h0.c5
  have z5 := h0.z 5
  have ho1 := hr.os
  have ho2 := hr.is
  have ho3 := hr.lo
  have TR := Lib.hid (fun q : Nat => ((AqTurn.refl h0).after be0 hlt).drewN q)
  have FC := Lib.hid (show ∀ (s1 : Aq), s1.lo ≤ 1000000000000 → s1.is.length ≤ 1000000 → ∀ v, AqTurn F b s1 W0 v → Calls Try.prog 48 #[.pointer (some ⟨b, 0, none⟩)] v fun r w' => r = .returned (.tuple #[]) ∧ AqTurn F b s1.fin w w' from fun s1 h1 h2 v T => (aqFin_calls T.1 h1 h2).mono (fun r w' hh => ⟨hh.1, (T.trans hh.2).after be0 hlt⟩))
  have HQ := Lib.hid (fun q : Nat => (AqTurn.refl h0).drewN q)
  have C2 := pq_mono (fun q => aqPut_calls (h0.drewN q) (by omega) ht 6 0 0 false none 0 [] (Rd.nil _ _) (Nat.zero_le _)) be0 hlt
  simp only [List.length_nil] at C2
  have gk3 : (k == 3) = false := beq_eq_false_iff_ne.2 (by omega)
  have gk4 : (k == 4) = false := beq_eq_false_iff_ne.2 (by omega)
  have gk5 : (k == 5) = false := beq_eq_false_iff_ne.2 (by omega)
  have gk6 : (k == 6) = false := beq_eq_false_iff_ne.2 (by omega)
  have gk7 : (k == 7) = false := beq_eq_false_iff_ne.2 (by omega)
  clear hk
  have gs : ((t : Int) == (s.tg : Int)) = false := beq_eq_false_iff_ne.2 (by omega)
  clear hs
  rw [hst] at c4
  clear hst
  clear h h0 hr kp be0 hlt
  unfold rvv rvc
  unfold rvW rvc at hW0
  go_enter Try.func40, Try.ntmps40
  go_wp2_with fail
  refine wp_scope_two 4 9 (by decide) (PrJ (fun v => ∃ q : Nat, v = W0.drewN q) b w.heap.size (.agg #[.int .i64 (t : Int), .int .i64 k, .int .i64 ns, .int .i64 nr, .bool p, .slice X n e]) false) (fun _ _ => False) ?_ ?_ ?_
  · go_wp2_with fail
    go_quiet (fail)
    go_wp2
    go_step3
    exact ⟨rfl, ⟨_, rfl⟩, prf_mk rfl⟩
  · rintro a w' ⟨⟨q, rfl⟩, u, rfl⟩
    unfold prf
    refine ⟨_, rfl, ?_⟩
    go_wp2_with fail
    refine (C2 _).mono ?_
    rintro e1 w1 ⟨rfl, T1⟩
    have FI := Lib.hid T1
    clear T1 C2
    go_wp2
    rw [jumps_ret]
    refine bodyPost_ret (results_none rfl _ _ _) rfl ?_
    exact ⟨rfl, FI.out⟩
  · exact fun _ _ h => h.elim
set_option maxRecDepth 20000 in
set_option maxHeartbeats 4000000 in
theorem aqProc_nuC (h : AqP w F b s) (hr : s.Room) {t : Nat} (ht : t < 65536) (n : Nat) (hk : 0 ≤ k ∧ k ≤ 2) (hs : t = s.tg) (hst : s.st ≠ 0 ∧ s.st ≠ 2) :
    Calls Try.prog 40 #[.pointer (some ⟨b, 0, none⟩), rvv t k ns nr p X n e] w fun r w' => r = .returned (.tuple #[]) ∧ AqTurn F b (s) w w' := by
  obtain ⟨W0, hW0⟩ : ∃ W0, rvW w t k ns nr p X n e = W0 := ⟨_, rfl⟩
  have be0 : Below w.heap.size w W0 := by rw [← hW0]; exact rv_below
  have h0 := h.below be0
  have hlt := h.lt
  have kp : ∀ V, Only F W0 V → V.heap[w.heap.size]? = some (.cells (rvc t k ns nr p X n e) 75 (0, 0)) := fun V on => rv_keep hlt (by rw [hW0]; exact on)
  obtain ⟨d0, d1, d2, d3, d4, d5⟩ := rv_cells (kp W0 (Only.refl _ _))
  have c4 := h0.c4
  have c5 := h0.c5
  have z5 := h0.z 5
  have ho1 := hr.os
  have ho2 := hr.is
  have ho3 := hr.lo
  have TR := Lib.hid (fun q : Nat => ((AqTurn.refl h0).after be0 hlt).drewN q)
  have FC := Lib.hid (show ∀ (s1 : Aq), s1.lo ≤ 1000000000000 → s1.is.length ≤ 1000000 → ∀ v, AqTurn F b s1 W0 v → Calls Try.prog 48 #[.pointer (some ⟨b, 0, none⟩)] v fun r w' => r = .returned (.tuple #[]) ∧ AqTurn F b s1.fin w w' from fun s1 h1 h2 v T => (aqFin_calls T.1 h1 h2).mono (fun r w' hh => ⟨hh.1, (T.trans hh.2).after be0 hlt⟩))
  have HQ := Lib.hid (fun q : Nat => (AqTurn.refl h0).drewN q)
  have gk3 : (k == 3) = false := beq_eq_false_iff_ne.2 (by omega)
  have gk4 : (k == 4) = false := beq_eq_false_iff_ne.2 (by omega)
  have gk5 : (k == 5) = false := beq_eq_false_iff_ne.2 (by omega)
  have gk6 : (k == 6) = false := beq_eq_false_iff_ne.2 (by omega)
  have gk7 : (k == 7) = false := beq_eq_false_iff_ne.2 (by omega)
  clear hk
  have gs : ((t : Int) == (s.tg : Int)) = true := by rw [hs]; simp
  have hsh := Lib.hid hs
  clear hs
  have g0 : ((s.st : Int) == 0) = false := beq_eq_false_iff_ne.2 (by omega)
  have m0 : ((s.st : Int) != 0) = true := by simp; omega
  have g2 : ((s.st : Int) == 2) = false := beq_eq_false_iff_ne.2 (by omega)
  have m2 : ((s.st : Int) != 2) = true := by simp; omega
  clear hst
  clear h h0 hr kp be0 hlt
  unfold rvv rvc
  unfold rvW rvc at hW0
  go_enter Try.func40, Try.ntmps40
  go_wp2_with fail
  refine wp_scope_two 9 8 (by decide) (fun _ _ => False) (fun _ _ => False) ?_ (fun _ _ h => h.elim) (fun _ _ h => h.elim)
  go_wp2_with fail
  go_quiet (fail)
  go_wp2
  rw [jumps_ret]
  refine bodyPost_ret (results_none rfl _ _ _) rfl ?_
  exact ⟨rfl, TR.out _⟩
set_option maxRecDepth 20000 in
set_option maxHeartbeats 4000000 in
theorem aqProc_nuD (h : AqP w F b s) (hr : s.Room) {t : Nat} (ht : t < 65536) (n : Nat) (hk : 0 ≤ k ∧ k ≤ 2) (hs : t ≠ s.tg) (hst : s.st ≠ 0) :
    Calls Try.prog 40 #[.pointer (some ⟨b, 0, none⟩), rvv t k ns nr p X n e] w fun r w' => r = .returned (.tuple #[]) ∧ AqTurn F b (s) w w' := by
  obtain ⟨W0, hW0⟩ : ∃ W0, rvW w t k ns nr p X n e = W0 := ⟨_, rfl⟩
  have be0 : Below w.heap.size w W0 := by rw [← hW0]; exact rv_below
  have h0 := h.below be0
  have hlt := h.lt
  have kp : ∀ V, Only F W0 V → V.heap[w.heap.size]? = some (.cells (rvc t k ns nr p X n e) 75 (0, 0)) := fun V on => rv_keep hlt (by rw [hW0]; exact on)
  obtain ⟨d0, d1, d2, d3, d4, d5⟩ := rv_cells (kp W0 (Only.refl _ _))
  have c4 := h0.c4
  have c5 := h0.c5
  have z5 := h0.z 5
  have ho1 := hr.os
  have ho2 := hr.is
  have ho3 := hr.lo
  have TR := Lib.hid (fun q : Nat => ((AqTurn.refl h0).after be0 hlt).drewN q)
  have FC := Lib.hid (show ∀ (s1 : Aq), s1.lo ≤ 1000000000000 → s1.is.length ≤ 1000000 → ∀ v, AqTurn F b s1 W0 v → Calls Try.prog 48 #[.pointer (some ⟨b, 0, none⟩)] v fun r w' => r = .returned (.tuple #[]) ∧ AqTurn F b s1.fin w w' from fun s1 h1 h2 v T => (aqFin_calls T.1 h1 h2).mono (fun r w' hh => ⟨hh.1, (T.trans hh.2).after be0 hlt⟩))
  have HQ := Lib.hid (fun q : Nat => (AqTurn.refl h0).drewN q)
  have gk3 : (k == 3) = false := beq_eq_false_iff_ne.2 (by omega)
  have gk4 : (k == 4) = false := beq_eq_false_iff_ne.2 (by omega)
  have gk5 : (k == 5) = false := beq_eq_false_iff_ne.2 (by omega)
  have gk6 : (k == 6) = false := beq_eq_false_iff_ne.2 (by omega)
  have gk7 : (k == 7) = false := beq_eq_false_iff_ne.2 (by omega)
  clear hk
  have gs : ((t : Int) == (s.tg : Int)) = false := beq_eq_false_iff_ne.2 (by omega)
  clear hs
  have g0 : ((s.st : Int) == 0) = false := beq_eq_false_iff_ne.2 (by omega)
  have m0 : ((s.st : Int) != 0) = true := by simp; omega
  clear hst
  clear h h0 hr kp be0 hlt
  unfold rvv rvc
  unfold rvW rvc at hW0
  go_enter Try.func40, Try.ntmps40
  go_wp2_with fail
  refine wp_scope_two 9 8 (by decide) (fun _ _ => False) (fun _ _ => False) ?_ (fun _ _ h => h.elim) (fun _ _ h => h.elim)
  go_wp2_with fail
  go_quiet (fail)
  go_wp2
  rw [jumps_ret]
  refine bodyPost_ret (results_none rfl _ _ _) rfl ?_
  exact ⟨rfl, TR.out _⟩
set_option maxRecDepth 20000 in
set_option maxHeartbeats 4000000 in
theorem aqProc_nuT (h : AqP w F b s) (hr : s.Room) {t : Nat} (ht : t < 65536) (n : Nat) (hk : 0 ≤ k ∧ k ≤ 2) (hs : t = s.tg) (hst : s.st = 2) (hns : I64 ns) (hnr : I64 nr) (x : List UInt8) (hrd : Rd w X x) (hx : x.length ≤ 1048576) (hXF : ∀ i, blk X = some i → ¬ F i) (hXl : ∀ i, blk X = some i → i < w.heap.size) (hn : n = x.length) (hB : exchB s k x = true) :
    Calls Try.prog 40 #[.pointer (some ⟨b, 0, none⟩), rvv t k ns nr p X n e] w fun r w' => r = .returned (.tuple #[]) ∧ AqTurn F b (exchQ s k ns nr p x) w w' := by
  obtain ⟨W0, hW0⟩ : ∃ W0, rvW w t k ns nr p X n e = W0 := ⟨_, rfl⟩
  have be0 : Below w.heap.size w W0 := by rw [← hW0]; exact rv_below
  have h0 := h.below be0
  have hlt := h.lt
  have kp : ∀ V, Only F W0 V → V.heap[w.heap.size]? = some (.cells (rvc t k ns nr p X n e) 75 (0, 0)) := fun V on => rv_keep hlt (by rw [hW0]; exact on)
  obtain ⟨d0, d1, d2, d3, d4, d5⟩ := rv_cells (kp W0 (Only.refl _ _))
  have c4 := h0.c4
  have c5 := h0.c5
  have z5 := h0.z 5
  have ho1 := hr.os
  have ho2 := hr.is
  have ho3 := hr.lo
  have TR := Lib.hid (fun q : Nat => ((AqTurn.refl h0).after be0 hlt).drewN q)
  have FC := Lib.hid (show ∀ (s1 : Aq), s1.lo ≤ 1000000000000 → s1.is.length ≤ 1000000 → ∀ v, AqTurn F b s1 W0 v → Calls Try.prog 48 #[.pointer (some ⟨b, 0, none⟩)] v fun r w' => r = .returned (.tuple #[]) ∧ AqTurn F b s1.fin w w' from fun s1 h1 h2 v T => (aqFin_calls T.1 h1 h2).mono (fun r w' hh => ⟨hh.1, (T.trans hh.2).after be0 hlt⟩))
  have HQ := Lib.hid (fun q : Nat => (AqTurn.refl h0).drewN q)
  subst hn
  have EX := fun q : Nat => (aqExch_calls (t := t) (k := k) (p := p) (e := e) (h0.drewN q) hr hns hnr x ((hrd.below be0).drewN q) hx hXF (fun i hi => Nat.lt_of_lt_of_le (hXl i hi) be0.size)).mono (show ∀ r w', _ → r = .returned (.bool (exchB s k x)) ∧ AqTurn F b (exchQ s k ns nr p x) W0 w' from fun r w' hh => ⟨hh.1, AqTurn.from_drewN hh.2⟩)
  rw [hB] at EX
  have HL := Lib.hid (show ∀ v, AqTurn F b (exchQ s k ns nr p x) W0 v → AqTurn F b (exchQ s k ns nr p x) w v from fun v T => T.after be0 hlt)
  unfold rvv rvc at EX
  have gk3 : (k == 3) = false := beq_eq_false_iff_ne.2 (by omega)
  have gk4 : (k == 4) = false := beq_eq_false_iff_ne.2 (by omega)
  have gk5 : (k == 5) = false := beq_eq_false_iff_ne.2 (by omega)
  have gk6 : (k == 6) = false := beq_eq_false_iff_ne.2 (by omega)
  have gk7 : (k == 7) = false := beq_eq_false_iff_ne.2 (by omega)
  clear hk
  have gs : ((t : Int) == (s.tg : Int)) = true := by rw [hs]; simp
  have hsh := Lib.hid hs
  clear hs
  rw [hst] at c4
  clear hst
  clear hB hns hnr hrd hx hXF hXl
  clear h h0 hr kp be0 hlt
  unfold rvv rvc
  unfold rvW rvc at hW0
  go_enter Try.func40, Try.ntmps40
  go_wp2_with fail
  refine wp_scope_two 9 8 (by decide) (fun _ _ => False) (fun _ _ => False) ?_ (fun _ _ h => h.elim) (fun _ _ h => h.elim)
  go_wp2_with fail
  go_quiet (fail)
  go_wp2_with fail
  refine (EX _).mono ?_
  rintro e1 w1 ⟨rfl, T1⟩
  have FI := Lib.hid (HL.out _ T1)
  clear T1 EX HL
  go_wp2
  rw [jumps_ret]
  refine bodyPost_ret (results_none rfl _ _ _) rfl ?_
  exact ⟨rfl, FI.out⟩
set_option maxRecDepth 20000 in
set_option maxHeartbeats 4000000 in
theorem aqProc_nuF (h : AqP w F b s) (hr : s.Room) {t : Nat} (ht : t < 65536) (n : Nat) (hk : 0 ≤ k ∧ k ≤ 2) (hs : t = s.tg) (hst : s.st = 2) (hns : I64 ns) (hnr : I64 nr) (x : List UInt8) (hrd : Rd w X x) (hx : x.length ≤ 1048576) (hXF : ∀ i, blk X = some i → ¬ F i) (hXl : ∀ i, blk X = some i → i < w.heap.size) (hn : n = x.length) (hB : exchB s k x = false) :
    Calls Try.prog 40 #[.pointer (some ⟨b, 0, none⟩), rvv t k ns nr p X n e] w fun r w' => r = .returned (.tuple #[]) ∧ AqTurn F b ((s.send 7 false).fin) w w' := by
  obtain ⟨W0, hW0⟩ : ∃ W0, rvW w t k ns nr p X n e = W0 := ⟨_, rfl⟩
  have be0 : Below w.heap.size w W0 := by rw [← hW0]; exact rv_below
  have h0 := h.below be0
  have hlt := h.lt
  have kp : ∀ V, Only F W0 V → V.heap[w.heap.size]? = some (.cells (rvc t k ns nr p X n e) 75 (0, 0)) := fun V on => rv_keep hlt (by rw [hW0]; exact on)
  obtain ⟨d0, d1, d2, d3, d4, d5⟩ := rv_cells (kp W0 (Only.refl _ _))
  have c4 := h0.c4
  have c5 := h0.c5
  have z5 := h0.z 5
  have ho1 := hr.os
  have ho2 := hr.is
  have ho3 := hr.lo
  have TR := Lib.hid (fun q : Nat => ((AqTurn.refl h0).after be0 hlt).drewN q)
  have FC := Lib.hid (show ∀ (s1 : Aq), s1.lo ≤ 1000000000000 → s1.is.length ≤ 1000000 → ∀ v, AqTurn F b s1 W0 v → Calls Try.prog 48 #[.pointer (some ⟨b, 0, none⟩)] v fun r w' => r = .returned (.tuple #[]) ∧ AqTurn F b s1.fin w w' from fun s1 h1 h2 v T => (aqFin_calls T.1 h1 h2).mono (fun r w' hh => ⟨hh.1, (T.trans hh.2).after be0 hlt⟩))
  have HQ := Lib.hid (fun q : Nat => (AqTurn.refl h0).drewN q)
  subst hn
  have EX := fun q : Nat => (aqExch_calls (t := t) (k := k) (p := p) (e := e) (h0.drewN q) hr hns hnr x ((hrd.below be0).drewN q) hx hXF (fun i hi => Nat.lt_of_lt_of_le (hXl i hi) be0.size)).mono (show ∀ r w', _ → r = .returned (.bool (exchB s k x)) ∧ AqTurn F b (exchQ s k ns nr p x) W0 w' from fun r w' hh => ⟨hh.1, AqTurn.from_drewN hh.2⟩)
  rw [hB] at EX
  have hE : exchQ s k ns nr p x = s.send 7 false := by unfold exchQ; unfold exchB at hB; rw [if_pos (by simpa using hB)]
  rw [hE] at EX
  unfold rvv rvc at EX
  have gk3 : (k == 3) = false := beq_eq_false_iff_ne.2 (by omega)
  have gk4 : (k == 4) = false := beq_eq_false_iff_ne.2 (by omega)
  have gk5 : (k == 5) = false := beq_eq_false_iff_ne.2 (by omega)
  have gk6 : (k == 6) = false := beq_eq_false_iff_ne.2 (by omega)
  have gk7 : (k == 7) = false := beq_eq_false_iff_ne.2 (by omega)
  clear hk
  have gs : ((t : Int) == (s.tg : Int)) = true := by rw [hs]; simp
  have hsh := Lib.hid hs
  clear hs
  rw [hst] at c4
  clear hst
  clear hB hns hnr hrd hx hXF hXl
  clear h h0 hr kp be0 hlt
  unfold rvv rvc
  unfold rvW rvc at hW0
  go_enter Try.func40, Try.ntmps40
  go_wp2_with fail
  refine wp_scope_two 5 9 (by decide) (PrJ (fun v => AqTurn F b (s.send 7 false) W0 v) b w.heap.size (.agg #[.int .i64 (t : Int), .int .i64 k, .int .i64 ns, .int .i64 nr, .bool p, .slice X x.length e]) true) (fun _ _ => False) ?_ ?_ ?_
  · go_wp2_with fail
    go_quiet (fail)
    go_wp2_with fail
    refine (EX _).mono ?_
    rintro e1 w1 ⟨rfl, T1⟩
    have HT := Lib.hid T1
    clear T1 EX
    go_wp2
    go_step3
    exact ⟨rfl, HT.out, prf_mk rfl⟩
  · rintro a w' ⟨T, u, rfl⟩
    unfold prf
    refine ⟨_, rfl, ?_⟩
    have FF := FC.out (s.send 7 false) (by show s.lo ≤ _; omega) (by show s.is.length ≤ _; omega) w' T
    clear T
    go_wp2_with fail
    refine FF.mono ?_
    rintro e9 w9 ⟨rfl, T9⟩
    have FI := Lib.hid T9
    clear T9 FF
    go_wp2
    simp only [jumps]
    go_end0
    exact ⟨rfl, FI.out⟩
  · exact fun _ _ h => h.elim
theorem aqProc_calls (h : AqP w F b s) (hr : s.Room) (hns : I64 ns) (hnr : I64 nr) (x : List UInt8) (hrd : Rd w X x) (hx : x.length ≤ 1048576) (hXF : ∀ i, blk X = some i → ¬ F i) (hXl : ∀ i, blk X = some i → i < w.heap.size) {t : Nat} (ht : t < 65536) (hk : 0 ≤ k ∧ k ≤ 7) :
    Calls Try.prog 40 #[.pointer (some ⟨b, 0, none⟩), rvv t k ns nr p X x.length e] w fun r w' => r = .returned (.tuple #[]) ∧ AqTurn F b (s.proc t k ns nr p x) w w' := by
  have hst := h.2.st3
  unfold Aq.proc
  by_cases h3 : k = 3
  · rw [if_pos h3]; subst h3; exact aqProc_req h hr ht _
  rw [if_neg h3]
  by_cases h4 : k = 4
  · rw [if_pos h4]
    subst h4
    unfold Aq.ua
    by_cases hs : t = s.tg
    · by_cases s3 : s.st = 3
      · rw [if_pos ⟨hs, s3⟩]; exact aqProc_ua3 h hr ht _ hs s3
      · rw [if_neg (fun h => s3 h.2)]
        by_cases s1 : s.st = 1
        · rw [if_pos ⟨hs, s1⟩]; exact aqProc_ua1 h hr ht _ hs s1
        · rw [if_neg (fun h => s1 h.2)]; exact aqProc_ua0 h hr ht _ hs ⟨s1, s3⟩
    · rw [if_neg (fun h => hs h.1), if_neg (fun h => hs h.1)]; exact aqProc_uaN h hr ht _ hs
  rw [if_neg h4]
  by_cases h6 : k = 6
  · rw [if_pos h6]
    subst h6
    unfold Aq.dm
    by_cases s1 : s.st = 1
    · cases ha : s.ahead t
      · rw [if_neg (by simp)]
        by_cases hs : t = s.tg
        · rw [if_pos ⟨hs, by omega⟩]; exact aqProc_dmB h hr ht _ hs s1 ha
        · rw [if_neg (fun h => hs h.1)]; exact aqProc_dmC h hr ht _ hs s1 ha
      · rw [if_pos ⟨s1, rfl⟩]
        by_cases hs : t = s.tg
        · exact aqProc_dmAs h hr ht _ hs s1 ha
        · exact aqProc_dmAn h hr ht _ hs s1 ha
    · rw [if_neg (fun h => s1 h.1)]
      by_cases hs : t = s.tg
      · by_cases s0 : s.st = 0
        · rw [if_neg (fun h => h.2 s0)]; exact aqProc_dmE h hr ht _ hs s0
        · rw [if_pos ⟨hs, s0⟩]; exact aqProc_dmD h hr ht _ hs ⟨s0, s1⟩
      · rw [if_neg (fun h => hs h.1)]; exact aqProc_dmF h hr ht _ hs s1
  rw [if_neg h6]
  by_cases h5 : k = 5
  · rw [if_pos h5]
    subst h5
    unfold Aq.disc
    by_cases hs : t = s.tg
    · by_cases s2 : s.st = 2
      · rw [if_pos ⟨hs, .inl s2⟩]; exact aqProc_di2 h hr ht _ hs s2
      · by_cases s3 : s.st = 3
        · rw [if_pos ⟨hs, .inr s3⟩]; exact aqProc_di3 h hr ht _ hs s3
        · rw [if_neg (fun h => h.2.elim s2 s3)]; exact aqProc_di0 h hr ht _ hs ⟨s2, s3⟩
    · rw [if_neg (fun h => hs h.1)]; exact aqProc_diN h hr ht _ hs
  rw [if_neg h5]
  by_cases h7 : k = 7
  · rw [if_pos h7]
    subst h7
    unfold Aq.frmr
    by_cases hs : t = s.tg
    · by_cases s2 : s.st = 2
      · rw [if_pos ⟨hs, s2⟩]; exact aqProc_frY h hr ht _ hs s2
      · rw [if_neg (fun h => s2 h.2)]; exact aqProc_frN h hr ht _ hs s2
    · rw [if_neg (fun h => hs h.1)]; exact aqProc_frM h hr ht _ hs
  rw [if_neg h7]
  unfold Aq.numbd
  have hk2 : 0 ≤ k ∧ k ≤ 2 := by omega
  by_cases s0 : s.st = 0
  · rw [if_pos s0]
    by_cases hs : t = s.tg
    · exact aqProc_nuAs h hr ht _ hk2 hs s0
    · exact aqProc_nuAn h hr ht _ hk2 hs s0
  rw [if_neg s0]
  by_cases hs : t = s.tg
  · by_cases s2 : s.st = 2
    · rw [if_pos ⟨hs, s2⟩]
      cases hB : exchB s k x
      · have hc : k = 0 ∧ s.sz < x.length := by unfold exchB at hB; simpa using hB
        rw [if_pos hc]
        exact aqProc_nuF h hr ht _ hk2 hs s2 hns hnr x hrd hx hXF hXl rfl hB
      · have hc : ¬ (k = 0 ∧ s.sz < x.length) := by unfold exchB at hB; intro hc; rw [decide_eq_true hc.1, decide_eq_true hc.2] at hB; cases hB
        rw [if_neg hc]
        have := aqProc_nuT (p := p) (e := e) h hr ht _ hk2 hs s2 hns hnr x hrd hx hXF hXl rfl hB
        unfold exchQ at this
        rw [if_neg hc] at this
        exact this
    · rw [if_neg (fun h => s2 h.2)]; exact aqProc_nuC h hr ht _ hk2 hs ⟨s0, s2⟩
  · rw [if_neg (fun h => hs h.1)]; exact aqProc_nuD h hr ht _ hk2 hs s0
end
end Go.Proofs.Ytgkdabllaankcaa
/- To which kind a first byte belongs; the two numbers at the beginning. Condition: the slice reads as its bytes. -/
namespace Go.Proofs.Ytgkdabllaankcaa
open Go.RowKit
set_option linter.unusedVariables false

set_option maxHeartbeats 800000 in
theorem kindOf_calls (f : Int) (hf : 0 ≤ f) (hg : f < 256) (w : World) :
    Calls Try.prog 71 #[.int .i64 f] w fun e w' => e = .returned (.tuple #[.int .i64 (kindN f).1, .bool (kindN f).2]) ∧ w = w' := by
  obtain ⟨R, hR⟩ : ∃ R, kindN f = R := ⟨_, rfl⟩
  rw [hR]
  have HR := Lib.hid hR
  clear hR
  by_cases he : f % 2 = 0
  · have hz : R = (0, true) := by rw [← HR.out]; unfold kindN; rw [if_pos he]
    subst hz
    clear HR
    go_enter Try.func71, Try.ntmps71
    go_wp2
    go_ret2
    exact ⟨rfl, rfl⟩
  · have heb : (f % 2 == 0) = false := by simpa using he
    have HO := Lib.hid he
    clear he
    go_enter Try.func71, Try.ntmps71
    go_wp2_with fail
    go_loopg [4] 7 (fun kx s4 wr => ∃ k : Nat, s4 = .int .i64 (k : Int) ∧ 1 ≤ k ∧ k ≤ 8 ∧ 8 - k ≤ kx ∧ wr = w ∧ Aside (∀ j : Int, 1 ≤ j → j < (k : Int) → ¬ (f = codeOf j ∨ (numb j = false ∧ f = codeOf j + 16))))
    case atStart => exact ⟨1, rfl, by omega, by omega, by omega, rfl, fun j h1 h2 => by omega⟩
    case round =>
      obtain ⟨k, rfl, hk1, hk8, hkx, rfl, HA⟩ := hrel
      by_cases hk : k ≤ 7
      · have hkz : (k : Int) ≤ 7 := by omega
        have cb := code_bound (k : Int)
        by_cases hc : f = codeOf (k : Int)
        · have hcb : (f == codeOf (k : Int)) = true := by simpa using hc
          have hz : R = ((k : Int), true) := by rw [← HR.out]; exact kind_hit f k (by omega) (by omega) (.inl hc)
          subst hz
          clear hc HR HA
          go_wp2_with fail
          refine (code_calls (k : Int) _).mono ?_
          rintro e w' ⟨rfl, rfl⟩
          go_wp2
          go_ret2
          exact ⟨rfl, rfl⟩
        · have hcb : (f == codeOf (k : Int)) = false := by simpa using hc
          have HC := Lib.hid hc
          clear hc
          cases hn : numb (k : Int)
          · by_cases hd : f = codeOf (k : Int) + 16
            · have hdb : (f == codeOf (k : Int) + 16) = true := by simpa using hd
              have hz : R = ((k : Int), true) := by rw [← HR.out]; exact kind_hit f k (by omega) (by omega) (.inr ⟨hn, hd⟩)
              subst hz
              clear hd HR HA
              go_wp2_with fail
              refine (code_calls (k : Int) _).mono ?_
              rintro e w' ⟨rfl, rfl⟩
              go_wp2_with fail
              refine (numbered_calls (k : Int) _).mono ?_
              rintro e w' ⟨rfl, rfl⟩
              go_wp2_with fail
              refine (code_calls (k : Int) _).mono ?_
              rintro e w' ⟨rfl, rfl⟩
              go_wp2
              go_ret2
              exact ⟨rfl, rfl⟩
            · have hdb : (f == codeOf (k : Int) + 16) = false := by simpa using hd
              have HD := Lib.hid hd
              have FIN : Aside (∀ j : Int, 1 ≤ j → j < ((k + 1 : Nat) : Int) → ¬ (f = codeOf j ∨ (numb j = false ∧ f = codeOf j + 16))) := by
                intro j h1 h2 h3
                by_cases hj : j = (k : Int)
                · subst hj
                  rcases h3 with h3 | ⟨_, h3⟩
                  · exact HC.out h3
                  · exact HD.out h3
                · exact HA.out j h1 (by omega) h3
              clear hd HA HC HD
              go_wp2_with fail
              refine (code_calls (k : Int) _).mono ?_
              rintro e w' ⟨rfl, rfl⟩
              go_wp2_with fail
              refine (numbered_calls (k : Int) _).mono ?_
              rintro e w' ⟨rfl, rfl⟩
              go_wp2_with fail
              refine (code_calls (k : Int) _).mono ?_
              rintro e w' ⟨rfl, rfl⟩
              go_wp2
              go_roundg (7 - k)
              case measure => omega
              case rel => exact ⟨k + 1, by go_num, by omega, by omega, by omega, rfl, FIN⟩
          · have HN := Lib.hid hn
            have FIN : Aside (∀ j : Int, 1 ≤ j → j < ((k + 1 : Nat) : Int) → ¬ (f = codeOf j ∨ (numb j = false ∧ f = codeOf j + 16))) := by
              intro j h1 h2 h3
              by_cases hj : j = (k : Int)
              · subst hj
                rcases h3 with h3 | ⟨h4, h3⟩
                · exact HC.out h3
                · rw [HN.out] at h4
                  cases h4
              · exact HA.out j h1 (by omega) h3
            clear HA HC
            go_wp2_with fail
            refine (code_calls (k : Int) _).mono ?_
            rintro e w' ⟨rfl, rfl⟩
            go_wp2_with fail
            refine (numbered_calls (k : Int) _).mono ?_
            rintro e w' ⟨rfl, rfl⟩
            go_wp2
            go_roundg (7 - k)
            case measure => omega
            case rel => exact ⟨k + 1, by go_num, by omega, by omega, by omega, rfl, FIN⟩
      · have hkz : ¬ (k : Int) ≤ 7 := by omega
        have hz : R = (0, false) := by rw [← HR.out]; exact kind_miss f HO.out (fun j h1 h7 => HA.out j h1 (by omega))
        subst hz
        clear HR HA
        go_wp2
        go_ret2
        exact ⟨rfl, rfl⟩

theorem i64_or8 (a b : Int) (ha : 0 ≤ a) (ha' : a < 256) (hb : 0 ≤ b) (hb' : b < 256) : bits .or .i64 a (b * 256) = a + 256 * b := by
  obtain ⟨x, rfl⟩ : ∃ x : Nat, a = (x : Int) := ⟨a.toNat, by omega⟩
  obtain ⟨y, rfl⟩ : ∃ y : Nat, b = (y : Int) := ⟨b.toNat, by omega⟩
  show IntKind.i64.wrap ((BitVec.ofInt 64 (x : Int) ||| BitVec.ofInt 64 ((y : Int) * 256)).toNat : Nat) = _
  rw [BitVec.toNat_or, BitVec.toNat_ofInt, BitVec.toNat_ofInt]
  have e1 : ((x : Int) % ((2 ^ 64 : Nat) : Int)).toNat = x := by omega
  have e2 : ((y : Int) * 256 % ((2 ^ 64 : Nat) : Int)).toNat = 2 ^ 8 * y := by omega
  rw [e1, e2, Nat.or_comm, ← Nat.two_pow_add_eq_or_of_lt (by omega), IntKind.wrap_i64]
  omega
theorem Rd.bAt {w : World} {A : Option Addr} {l : List UInt8} (h : Rd w A l) (j : Nat) (hj : j < l.length) : ∃ b off, A = some ⟨b, off, none⟩ ∧ b < w.heap.size ∧ ∀ i, i < l.length → w.cell? ⟨b, off + i, none⟩ = some (.int .u8 (bAt l i)) := by
  obtain ⟨b, off, e, hb, _⟩ := h.at_ hj
  obtain ⟨b', off', e', hc⟩ := h (by rintro rfl; simp at hj)
  rw [e] at e'
  injection e' with e'
  injection e' with e1 e2
  subst e1 e2
  exact ⟨b, off, e, hb, hc⟩
theorem split_calls (A : Option Addr) (c : Nat) (l : List UInt8) (m : Int) (w : World) (hr : Rd w A l) (hl : l.length ≤ 100000) (hm : m = 128 ∨ m = 32768) :
    Calls Try.prog 81 #[.slice A l.length c, .int .i64 m] w fun e w' => e = .returned (.tuple #[.int .i64 (splitN l m).1, .int .i64 (splitN l m).2.1, .int .i64 (splitN l m).2.2]) ∧ ∃ n, w' = w.drewN n := by
  obtain ⟨n, hn⟩ : ∃ n, n = l.length := ⟨_, rfl⟩
  rcases hm with rfl | rfl
  · by_cases h2 : 2 ≤ l.length
    · rw [show splitN l 128 = (bAt l 0, bAt l 1, 2) from if_pos ⟨rfl, h2⟩]
      obtain ⟨b, off, rfl, hb, hc⟩ := hr.bAt 0 (by omega)
      have q0 : w.cell? ⟨b, off, none⟩ = some (.int .u8 (bAt l 0)) := hc 0 (by omega)
      have q1 := hc 1 (by omega)
      have b0 := bAt_lt l 0
      have b1 := bAt_lt l 1
      generalize bAt l 0 = x0 at *
      generalize bAt l 1 = x1 at *
      rw [← hn] at h2 hl ⊢
      clear hc hr hn
      have h2z : (2 : Int) ≤ (n : Int) := by omega
      go_enter Try.func81, Try.ntmps81
      go_wp2_with fail
      go_quiet (fail)
      go_wp2
      go_ret3
      exact ⟨rfl, _, rfl⟩
    · rw [show splitN l 128 = (0, 0, 0) by unfold splitN; rw [if_neg (by omega), if_neg (by omega)]]
      have h2z : ¬ (2 : Int) ≤ (l.length : Int) := by omega
      go_enter Try.func81, Try.ntmps81
      go_wp2
      go_ret3
      exact ⟨rfl, 0, rfl⟩
  · by_cases h2 : 4 ≤ l.length
    · rw [show splitN l 32768 = (bAt l 0 + 256 * bAt l 1, bAt l 2 + 256 * bAt l 3, 4) by unfold splitN; rw [if_neg (by omega), if_pos ⟨rfl, h2⟩]]
      obtain ⟨b, off, rfl, hb, hc⟩ := hr.bAt 0 (by omega)
      have q0 : w.cell? ⟨b, off, none⟩ = some (.int .u8 (bAt l 0)) := hc 0 (by omega)
      have q1 := hc 1 (by omega)
      have q2 := hc 2 (by omega)
      have q3 := hc 3 (by omega)
      have b0 := bAt_lt l 0
      have b1 := bAt_lt l 1
      have b2 := bAt_lt l 2
      have b3 := bAt_lt l 3
      generalize bAt l 0 = x0 at *
      generalize bAt l 1 = x1 at *
      generalize bAt l 2 = x2 at *
      generalize bAt l 3 = x3 at *
      have o1 := i64_or8 x0 x1 b0.1 b0.2 b1.1 b1.2
      have o2 := i64_or8 x2 x3 b2.1 b2.2 b3.1 b3.2
      rw [← hn] at h2 hl ⊢
      clear hc hr hn
      have h2z : (4 : Int) ≤ (n : Int) := by omega
      go_enter Try.func81, Try.ntmps81
      go_wp2_with fail
      go_quiet (fail)
      go_wp2
      go_ret3
      exact ⟨rfl, _, rfl⟩
    · rw [show splitN l 32768 = (0, 0, 0) by unfold splitN; rw [if_neg (by omega), if_neg (by omega)]]
      have h2z : ¬ (4 : Int) ≤ (l.length : Int) := by omega
      go_enter Try.func81, Try.ntmps81
      go_wp2
      go_ret3
      exact ⟨rfl, 0, rfl⟩
end Go.Proofs.Ytgkdabllaankcaa

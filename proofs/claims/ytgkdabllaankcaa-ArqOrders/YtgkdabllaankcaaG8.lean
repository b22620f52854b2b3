/- Package arq walked, part 8 of 15 (merged texts: AqProc). No condition. -/
import Derived.Test.YtgkdabllaankcaaG7
/- process of an end of a session. Condition: room for outputs, indications, messages. (Written by gen_aqproc.py.) -/
namespace Go.Proofs.Ytgkdabllaankcaa
open Go.RowKit
set_option linter.unusedVariables false

/-- the frame at a jump -/
def prf (b n0 : Nat) (x : Value) (sm : Bool) (u : Nat → Value) : Act :=
  { tmps := #[.pointer (some ⟨b, 0, none⟩), x, u 2, .pointer (some ⟨n0, 0, none⟩), .bool sm, u 5, u 6, u 7, u 8, u 9, u 10, u 11, u 12, u 13, u 14, u 15, u 16, u 17, u 18, u 19, u 20, u 21, u 22, u 23, u 24, u 25, u 26, u 27, u 28, u 29, u 30, u 31, u 32, u 33, u 34, u 35, u 36, u 37, u 38, u 39, u 40, u 41, u 42, u 43, u 44, u 45, u 46, u 47, u 48, u 49, u 50, u 51, u 52, u 53, u 54, u 55, u 56, u 57, u 58, u 59, u 60, u 61, u 62, u 63, u 64, u 65, u 66, u 67, u 68, u 69, u 70, u 71, u 72, u 73, u 74, u 75, u 76, u 77, u 78, u 79, u 80, u 81, u 82, u 83, u 84, u 85, u 86, u 87, u 88, u 89, u 90, u 91, u 92, u 93, u 94, u 95, u 96, u 97, u 98, u 99, u 100, u 101, u 102, u 103, u 104, u 105, u 106, u 107, u 108, u 109, u 110, u 111, u 112, u 113, u 114, u 115, u 116, u 117, u 118, u 119, u 120, u 121, u 122, u 123, u 124], defers := [] }
theorem prf_mk {b n0 : Nat} {x : Value} {sm : Bool} {a : Act} (ha : a = prf b n0 x sm (fun j => a.tmps.getD j undef)) : ∃ u, a = prf b n0 x sm u := ⟨_, ha⟩
def PrJ (P : World → Prop) (b n0 : Nat) (x : Value) (sm : Bool) (a : Act) (w : World) : Prop := P w ∧ ∃ u, a = prf b n0 x sm u
section
variable {w : World} {F : Nat → Prop} {b : Nat} {s : Aq} {k ns nr : Int} {p : Bool} {X : Option Addr} {e : Nat}
/-- what a call gives at whatever world with more draws -/
theorem pq_mono {W0 : World} {f : Nat} {args : Array Value} {s1 : Aq} {v : Ending} (h : ∀ q : Nat, Calls Try.prog f args (W0.drewN q) fun r w' => r = v ∧ AqTurn F b s1 (W0.drewN q) w') (be : Below w.heap.size w W0) (hlt : ∀ i, F i → i < w.heap.size) :
    ∀ q : Nat, Calls Try.prog f args (W0.drewN q) fun r w' => r = v ∧ AqTurn F b s1 w w' := fun q => (h q).mono (fun r w' hh => ⟨hh.1, (AqTurn.from_drewN hh.2).after be hlt⟩)
theorem pq_mono0 {W0 : World} {f : Nat} {args : Array Value} {s1 : Aq} {v : Ending} (h : ∀ q : Nat, Calls Try.prog f args (W0.drewN q) fun r w' => r = v ∧ AqTurn F b s1 (W0.drewN q) w') :
    ∀ q : Nat, Calls Try.prog f args (W0.drewN q) fun r w' => r = v ∧ AqTurn F b s1 W0 w' := fun q => (h q).mono (fun r w' hh => ⟨hh.1, AqTurn.from_drewN hh.2⟩)
set_option maxRecDepth 20000 in
set_option maxHeartbeats 4000000 in
theorem aqProc_req (h : AqP w F b s) (hr : s.Room) {t : Nat} (ht : t < 65536) (n : Nat) :
    Calls Try.prog 40 #[.pointer (some ⟨b, 0, none⟩), rvv t 3 ns nr p X n e] w fun r w' => r = .returned (.tuple #[]) ∧ AqTurn F b (s.request t p) w w' := by
  obtain ⟨W0, hW0⟩ : ∃ W0, rvW w t 3 ns nr p X n e = W0 := ⟨_, rfl⟩
  have be0 : Below w.heap.size w W0 := by rw [← hW0]; exact rv_below
  have h0 := h.below be0
  have hlt := h.lt
  have kp : ∀ V, Only F W0 V → V.heap[w.heap.size]? = some (.cells (rvc t 3 ns nr p X n e) 75 (0, 0)) := fun V on => rv_keep hlt (by rw [hW0]; exact on)
  obtain ⟨d0, d1, d2, d3, d4, d5⟩ := rv_cells (kp W0 (Only.refl _ _))
  have c4 := h0.c4
  have c5 := h0.c5
  have z5 := h0.z 5
  have ho1 := hr.os
  have ho2 := hr.is
  have ho3 := hr.lo
  have TR := Lib.hid (fun q : Nat => ((AqTurn.refl h0).after be0 hlt).drewN q)
  have FC := Lib.hid (show ∀ (s1 : Aq), s1.lo ≤ 1000000000000 → s1.is.length ≤ 1000000 → ∀ v, AqTurn F b s1 W0 v → Calls Try.prog 48 #[.pointer (some ⟨b, 0, none⟩)] v fun r w' => r = .returned (.tuple #[]) ∧ AqTurn F b s1.fin w w' from fun s1 h1 h2 v T => (aqFin_calls T.1 h1 h2).mono (fun r w' hh => ⟨hh.1, (T.trans hh.2).after be0 hlt⟩))
  have HQ := Lib.hid (fun q : Nat => (AqTurn.refl h0).drewN q)
  have C1 := pq_mono (fun q => aqRequest_calls (k := 3) (ns := ns) (nr := nr) (p := p) (X := X) (n := n) (e := e) (h0.drewN q) (by omega) (by omega) (by omega) ht) be0 hlt
  unfold rvv rvc at C1
  clear h h0 hr kp be0 hlt
  unfold rvv rvc
  unfold rvW rvc at hW0
  go_enter Try.func40, Try.ntmps40
  go_wp2_with fail
  refine wp_scope_two 9 8 (by decide) (fun _ _ => False) (fun _ _ => False) ?_ (fun _ _ h => h.elim) (fun _ _ h => h.elim)
  go_wp2_with fail
  go_quiet (fail)
  go_wp2_with fail
  refine (C1 _).mono ?_
  rintro e1 w1 ⟨rfl, T1⟩
  have FI := Lib.hid T1
  clear T1 C1
  go_wp2
  rw [jumps_ret]
  refine bodyPost_ret (results_none rfl _ _ _) rfl ?_
  exact ⟨rfl, FI.out⟩
set_option maxRecDepth 20000 in
set_option maxHeartbeats 4000000 in
theorem aqProc_ua3 (h : AqP w F b s) (hr : s.Room) {t : Nat} (ht : t < 65536) (n : Nat) (hs : t = s.tg) (hst : s.st = 3) :
    Calls Try.prog 40 #[.pointer (some ⟨b, 0, none⟩), rvv t 4 ns nr p X n e] w fun r w' => r = .returned (.tuple #[]) ∧ AqTurn F b (s.fin) w w' := by
  obtain ⟨W0, hW0⟩ : ∃ W0, rvW w t 4 ns nr p X n e = W0 := ⟨_, rfl⟩
  have be0 : Below w.heap.size w W0 := by rw [← hW0]; exact rv_below
  have h0 := h.below be0
  have hlt := h.lt
  have kp : ∀ V, Only F W0 V → V.heap[w.heap.size]? = some (.cells (rvc t 4 ns nr p X n e) 75 (0, 0)) := fun V on => rv_keep hlt (by rw [hW0]; exact on)
  obtain ⟨d0, d1, d2, d3, d4, d5⟩ := rv_cells (kp W0 (Only.refl _ _))
  have c4 := h0.c4
  have c5 := h0.c5
  have z5 := h0.z 5
  have ho1 := hr.os
  have ho2 := hr.is
  have ho3 := hr.lo
  have TR := Lib.hid (fun q : Nat => ((AqTurn.refl h0).after be0 hlt).drewN q)
  have FC := Lib.hid (show ∀ (s1 : Aq), s1.lo ≤ 1000000000000 → s1.is.length ≤ 1000000 → ∀ v, AqTurn F b s1 W0 v → Calls Try.prog 48 #[.pointer (some ⟨b, 0, none⟩)] v fun r w' => r = .returned (.tuple #[]) ∧ AqTurn F b s1.fin w w' from fun s1 h1 h2 v T => (aqFin_calls T.1 h1 h2).mono (fun r w' hh => ⟨hh.1, (T.trans hh.2).after be0 hlt⟩))
  have HQ := Lib.hid (fun q : Nat => (AqTurn.refl h0).drewN q)
  have gs : ((t : Int) == (s.tg : Int)) = true := by rw [hs]; simp
  have hsh := Lib.hid hs
  clear hs
  rw [hst] at c4
  clear hst
  clear h h0 hr kp be0 hlt
  unfold rvv rvc
  unfold rvW rvc at hW0
  go_enter Try.func40, Try.ntmps40
  go_wp2_with fail
  refine wp_scope_two 0 5 (by decide) (PrJ (fun v => ∃ q : Nat, v = W0.drewN q) b w.heap.size (.agg #[.int .i64 (t : Int), .int .i64 4, .int .i64 ns, .int .i64 nr, .bool p, .slice X n e]) true) (PrJ (fun v => AqTurn F b s W0 v) b w.heap.size (.agg #[.int .i64 (t : Int), .int .i64 4, .int .i64 ns, .int .i64 nr, .bool p, .slice X n e]) true) ?_ ?_ ?_
  · go_wp2_with fail
    go_quiet (fail)
    go_wp2
    go_step3
    exact ⟨rfl, ⟨_, rfl⟩, prf_mk rfl⟩
  · rintro a w' ⟨⟨q, rfl⟩, u, rfl⟩
    unfold prf
    refine ⟨_, rfl, ?_⟩
    go_wp2
    go_step3
    exact ⟨rfl, HQ.out _, prf_mk rfl⟩
  · rintro a w' ⟨T, u, rfl⟩
    unfold prf
    refine ⟨_, rfl, ?_⟩
    have FF := FC.out s (by omega) (by omega) w' T
    clear T
    go_wp2_with fail
    refine FF.mono ?_
    rintro e9 w9 ⟨rfl, T9⟩
    have FI := Lib.hid T9
    clear T9 FF
    go_wp2
    simp only [jumps]
    go_end0
    exact ⟨rfl, FI.out⟩

set_option maxRecDepth 20000 in
set_option maxHeartbeats 4000000 in
theorem aqProc_ua1 (h : AqP w F b s) (hr : s.Room) {t : Nat} (ht : t < 65536) (n : Nat) (hs : t = s.tg) (hst : s.st = 1) :
    Calls Try.prog 40 #[.pointer (some ⟨b, 0, none⟩), rvv t 4 ns nr p X n e] w fun r w' => r = .returned (.tuple #[]) ∧ AqTurn F b (s.agree) w w' := by
  obtain ⟨W0, hW0⟩ : ∃ W0, rvW w t 4 ns nr p X n e = W0 := ⟨_, rfl⟩
  have be0 : Below w.heap.size w W0 := by rw [← hW0]; exact rv_below
  have h0 := h.below be0
  have hlt := h.lt
  have kp : ∀ V, Only F W0 V → V.heap[w.heap.size]? = some (.cells (rvc t 4 ns nr p X n e) 75 (0, 0)) := fun V on => rv_keep hlt (by rw [hW0]; exact on)
  obtain ⟨d0, d1, d2, d3, d4, d5⟩ := rv_cells (kp W0 (Only.refl _ _))
  have c4 := h0.c4
  have c5 := h0.c5
  have z5 := h0.z 5
  have ho1 := hr.os
  have ho2 := hr.is
  have ho3 := hr.lo
  have TR := Lib.hid (fun q : Nat => ((AqTurn.refl h0).after be0 hlt).drewN q)
  have FC := Lib.hid (show ∀ (s1 : Aq), s1.lo ≤ 1000000000000 → s1.is.length ≤ 1000000 → ∀ v, AqTurn F b s1 W0 v → Calls Try.prog 48 #[.pointer (some ⟨b, 0, none⟩)] v fun r w' => r = .returned (.tuple #[]) ∧ AqTurn F b s1.fin w w' from fun s1 h1 h2 v T => (aqFin_calls T.1 h1 h2).mono (fun r w' hh => ⟨hh.1, (T.trans hh.2).after be0 hlt⟩))
  have HQ := Lib.hid (fun q : Nat => (AqTurn.refl h0).drewN q)
  have C1 := pq_mono (fun q => aqAgree_calls (h0.drewN q) (by omega) (by have := Aq.W_le h.2; show s.os.length + (s.lg.W - s.lg.n) ≤ _; omega)) be0 hlt
  have gs : ((t : Int) == (s.tg : Int)) = true := by rw [hs]; simp
  have hsh := Lib.hid hs
  clear hs
  rw [hst] at c4
  clear hst
  clear h h0 hr kp be0 hlt
  unfold rvv rvc
  unfold rvW rvc at hW0
  go_enter Try.func40, Try.ntmps40
  go_wp2_with fail
  refine wp_scope_two 0 9 (by decide) (PrJ (fun v => ∃ q : Nat, v = W0.drewN q) b w.heap.size (.agg #[.int .i64 (t : Int), .int .i64 4, .int .i64 ns, .int .i64 nr, .bool p, .slice X n e]) true) (fun _ _ => False) ?_ ?_ ?_
  · go_wp2_with fail
    go_quiet (fail)
    go_wp2
    go_step3
    exact ⟨rfl, ⟨_, rfl⟩, prf_mk rfl⟩
  · rintro a w' ⟨⟨q, rfl⟩, u, rfl⟩
    unfold prf
    refine ⟨_, rfl, ?_⟩
    go_wp2_with fail
    refine (C1 _).mono ?_
    rintro e1 w1 ⟨rfl, T1⟩
    have FI := Lib.hid T1
    clear T1 C1
    go_wp2
    rw [jumps_ret]
    refine bodyPost_ret (results_none rfl _ _ _) rfl ?_
    exact ⟨rfl, FI.out⟩
  · exact fun _ _ h => h.elim
set_option maxRecDepth 20000 in
set_option maxHeartbeats 4000000 in
theorem aqProc_ua0 (h : AqP w F b s) (hr : s.Room) {t : Nat} (ht : t < 65536) (n : Nat) (hs : t = s.tg) (hst : s.st ≠ 1 ∧ s.st ≠ 3) :
    Calls Try.prog 40 #[.pointer (some ⟨b, 0, none⟩), rvv t 4 ns nr p X n e] w fun r w' => r = .returned (.tuple #[]) ∧ AqTurn F b (s) w w' := by
  obtain ⟨W0, hW0⟩ : ∃ W0, rvW w t 4 ns nr p X n e = W0 := ⟨_, rfl⟩
  have be0 : Below w.heap.size w W0 := by rw [← hW0]; exact rv_below
  have h0 := h.below be0
  have hlt := h.lt
  have kp : ∀ V, Only F W0 V → V.heap[w.heap.size]? = some (.cells (rvc t 4 ns nr p X n e) 75 (0, 0)) := fun V on => rv_keep hlt (by rw [hW0]; exact on)
  obtain ⟨d0, d1, d2, d3, d4, d5⟩ := rv_cells (kp W0 (Only.refl _ _))
  have c4 := h0.c4
  have c5 := h0.c5
  have z5 := h0.z 5
  have ho1 := hr.os
  have ho2 := hr.is
  have ho3 := hr.lo
  have TR := Lib.hid (fun q : Nat => ((AqTurn.refl h0).after be0 hlt).drewN q)
  have FC := Lib.hid (show ∀ (s1 : Aq), s1.lo ≤ 1000000000000 → s1.is.length ≤ 1000000 → ∀ v, AqTurn F b s1 W0 v → Calls Try.prog 48 #[.pointer (some ⟨b, 0, none⟩)] v fun r w' => r = .returned (.tuple #[]) ∧ AqTurn F b s1.fin w w' from fun s1 h1 h2 v T => (aqFin_calls T.1 h1 h2).mono (fun r w' hh => ⟨hh.1, (T.trans hh.2).after be0 hlt⟩))
  have HQ := Lib.hid (fun q : Nat => (AqTurn.refl h0).drewN q)
  have gs : ((t : Int) == (s.tg : Int)) = true := by rw [hs]; simp
  have hsh := Lib.hid hs
  clear hs
  have g1 : ((s.st : Int) == 1) = false := beq_eq_false_iff_ne.2 (by omega)
  have m1 : ((s.st : Int) != 1) = true := by simp; omega
  have g3 : ((s.st : Int) == 3) = false := beq_eq_false_iff_ne.2 (by omega)
  have m3 : ((s.st : Int) != 3) = true := by simp; omega
  clear hst
  clear h h0 hr kp be0 hlt
  unfold rvv rvc
  unfold rvW rvc at hW0
  go_enter Try.func40, Try.ntmps40
  go_wp2_with fail
  refine wp_scope_two 0 9 (by decide) (PrJ (fun v => ∃ q : Nat, v = W0.drewN q) b w.heap.size (.agg #[.int .i64 (t : Int), .int .i64 4, .int .i64 ns, .int .i64 nr, .bool p, .slice X n e]) true) (fun _ _ => False) ?_ ?_ ?_
  · go_wp2_with fail
    go_quiet (fail)
    go_wp2
    go_step3
    exact ⟨rfl, ⟨_, rfl⟩, prf_mk rfl⟩
  · rintro a w' ⟨⟨q, rfl⟩, u, rfl⟩
    unfold prf
    refine ⟨_, rfl, ?_⟩
    go_wp2
    rw [jumps_ret]
    refine bodyPost_ret (results_none rfl _ _ _) rfl ?_
    exact ⟨rfl, TR.out _⟩
  · exact fun _ _ h => h.elim
set_option maxRecDepth 20000 in
set_option maxHeartbeats 4000000 in
theorem aqProc_uaN (h : AqP w F b s) (hr : s.Room) {t : Nat} (ht : t < 65536) (n : Nat) (hs : t ≠ s.tg) :
    Calls Try.prog 40 #[.pointer (some ⟨b, 0, none⟩), rvv t 4 ns nr p X n e] w fun r w' => r = .returned (.tuple #[]) ∧ AqTurn F b (s) w w' := by
  obtain ⟨W0, hW0⟩ : ∃ W0, rvW w t 4 ns nr p X n e = W0 := ⟨_, rfl⟩
  have be0 : Below w.heap.size w W0 := by rw [← hW0]; exact rv_below
  have h0 := h.below be0
  have hlt := h.lt
  have kp : ∀ V, Only F W0 V → V.heap[w.heap.size]? = some (.cells (rvc t 4 ns nr p X n e) 75 (0, 0)) := fun V on => rv_keep hlt (by rw [hW0]; exact on)
  obtain ⟨d0, d1, d2, d3, d4, d5⟩ := rv_cells (kp W0 (Only.refl _ _))
  have c4 := h0.c4
  have c5 := h0.c5
  have z5 := h0.z 5
  have ho1 := hr.os
  have ho2 := hr.is
  have ho3 := hr.lo
  have TR := Lib.hid (fun q : Nat => ((AqTurn.refl h0).after be0 hlt).drewN q)
  have FC := Lib.hid (show ∀ (s1 : Aq), s1.lo ≤ 1000000000000 → s1.is.length ≤ 1000000 → ∀ v, AqTurn F b s1 W0 v → Calls Try.prog 48 #[.pointer (some ⟨b, 0, none⟩)] v fun r w' => r = .returned (.tuple #[]) ∧ AqTurn F b s1.fin w w' from fun s1 h1 h2 v T => (aqFin_calls T.1 h1 h2).mono (fun r w' hh => ⟨hh.1, (T.trans hh.2).after be0 hlt⟩))
  have HQ := Lib.hid (fun q : Nat => (AqTurn.refl h0).drewN q)
  have gs : ((t : Int) == (s.tg : Int)) = false := beq_eq_false_iff_ne.2 (by omega)
  clear hs
  clear h h0 hr kp be0 hlt
  unfold rvv rvc
  unfold rvW rvc at hW0
  go_enter Try.func40, Try.ntmps40
  go_wp2_with fail
  refine wp_scope_two 0 9 (by decide) (PrJ (fun v => ∃ q : Nat, v = W0.drewN q) b w.heap.size (.agg #[.int .i64 (t : Int), .int .i64 4, .int .i64 ns, .int .i64 nr, .bool p, .slice X n e]) false) (fun _ _ => False) ?_ ?_ ?_
  · go_wp2_with fail
    go_quiet (fail)
    go_wp2
    go_step3
    exact ⟨rfl, ⟨_, rfl⟩, prf_mk rfl⟩
  · rintro a w' ⟨⟨q, rfl⟩, u, rfl⟩
    unfold prf
    refine ⟨_, rfl, ?_⟩
    go_wp2
    rw [jumps_ret]
    refine bodyPost_ret (results_none rfl _ _ _) rfl ?_
    exact ⟨rfl, TR.out _⟩
  · exact fun _ _ h => h.elim
set_option maxRecDepth 20000 in
set_option maxHeartbeats 4000000 in
theorem aqProc_frY (h : AqP w F b s) (hr : s.Room) {t : Nat} (ht : t < 65536) (n : Nat) (hs : t = s.tg) (hst : s.st = 2) :
    Calls Try.prog 40 #[.pointer (some ⟨b, 0, none⟩), rvv t 7 ns nr p X n e] w fun r w' => r = .returned (.tuple #[]) ∧ AqTurn F b (s.fin) w w' := by
  obtain ⟨W0, hW0⟩ : ∃ W0, rvW w t 7 ns nr p X n e = W0 := ⟨_, rfl⟩
  have be0 : Below w.heap.size w W0 := by rw [← hW0]; exact rv_below
  have h0 := h.below be0
  have hlt := h.lt
  have kp : ∀ V, Only F W0 V → V.heap[w.heap.size]? = some (.cells (rvc t 7 ns nr p X n e) 75 (0, 0)) := fun V on => rv_keep hlt (by rw [hW0]; exact on)
  obtain ⟨d0, d1, d2, d3, d4, d5⟩ := rv_cells (kp W0 (Only.refl _ _))
  have c4 := h0.c4
  have c5 := h0.c5
  have z5 := h0.z 5
  have ho1 := hr.os
  have ho2 := hr.is
  have ho3 := hr.lo
  have TR := Lib.hid (fun q : Nat => ((AqTurn.refl h0).after be0 hlt).drewN q)
  have FC := Lib.hid (show ∀ (s1 : Aq), s1.lo ≤ 1000000000000 → s1.is.length ≤ 1000000 → ∀ v, AqTurn F b s1 W0 v → Calls Try.prog 48 #[.pointer (some ⟨b, 0, none⟩)] v fun r w' => r = .returned (.tuple #[]) ∧ AqTurn F b s1.fin w w' from fun s1 h1 h2 v T => (aqFin_calls T.1 h1 h2).mono (fun r w' hh => ⟨hh.1, (T.trans hh.2).after be0 hlt⟩))
  have HQ := Lib.hid (fun q : Nat => (AqTurn.refl h0).drewN q)
  have gs : ((t : Int) == (s.tg : Int)) = true := by rw [hs]; simp
  have hsh := Lib.hid hs
  clear hs
  rw [hst] at c4
  clear hst
  clear h h0 hr kp be0 hlt
  unfold rvv rvc
  unfold rvW rvc at hW0
  go_enter Try.func40, Try.ntmps40
  go_wp2_with fail
  refine wp_scope_two 3 9 (by decide) (PrJ (fun v => ∃ q : Nat, v = W0.drewN q) b w.heap.size (.agg #[.int .i64 (t : Int), .int .i64 7, .int .i64 ns, .int .i64 nr, .bool p, .slice X n e]) true) (fun _ _ => False) ?_ ?_ ?_
  · go_wp2_with fail
    go_quiet (fail)
    go_wp2
    go_step3
    exact ⟨rfl, ⟨_, rfl⟩, prf_mk rfl⟩
  · rintro a w' ⟨⟨q, rfl⟩, u, rfl⟩
    unfold prf
    refine ⟨_, rfl, ?_⟩
    have FF := fun q => FC.out s (by omega) (by omega) _ (HQ.out q)
    go_wp2_with fail
    refine wp_label ?_
    go_wp2_with fail
    refine (FF _).mono ?_
    rintro e1 w1 ⟨rfl, T1⟩
    have FI := Lib.hid T1
    clear T1 FF
    go_wp2
    simp only [jumps]
    go_end0
    exact ⟨rfl, FI.out⟩
  · exact fun _ _ h => h.elim
set_option maxRecDepth 20000 in
set_option maxHeartbeats 4000000 in
theorem aqProc_frN (h : AqP w F b s) (hr : s.Room) {t : Nat} (ht : t < 65536) (n : Nat) (hs : t = s.tg) (hst : s.st ≠ 2) :
    Calls Try.prog 40 #[.pointer (some ⟨b, 0, none⟩), rvv t 7 ns nr p X n e] w fun r w' => r = .returned (.tuple #[]) ∧ AqTurn F b (s) w w' := by
  obtain ⟨W0, hW0⟩ : ∃ W0, rvW w t 7 ns nr p X n e = W0 := ⟨_, rfl⟩
  have be0 : Below w.heap.size w W0 := by rw [← hW0]; exact rv_below
  have h0 := h.below be0
  have hlt := h.lt
  have kp : ∀ V, Only F W0 V → V.heap[w.heap.size]? = some (.cells (rvc t 7 ns nr p X n e) 75 (0, 0)) := fun V on => rv_keep hlt (by rw [hW0]; exact on)
  obtain ⟨d0, d1, d2, d3, d4, d5⟩ := rv_cells (kp W0 (Only.refl _ _))
  have c4 := h0.c4
  have c5 := h0.c5
  have z5 := h0.z 5
  have ho1 := hr.os
  have ho2 := hr.is
  have ho3 := hr.lo
  have TR := Lib.hid (fun q : Nat => ((AqTurn.refl h0).after be0 hlt).drewN q)
  have FC := Lib.hid (show ∀ (s1 : Aq), s1.lo ≤ 1000000000000 → s1.is.length ≤ 1000000 → ∀ v, AqTurn F b s1 W0 v → Calls Try.prog 48 #[.pointer (some ⟨b, 0, none⟩)] v fun r w' => r = .returned (.tuple #[]) ∧ AqTurn F b s1.fin w w' from fun s1 h1 h2 v T => (aqFin_calls T.1 h1 h2).mono (fun r w' hh => ⟨hh.1, (T.trans hh.2).after be0 hlt⟩))
  have HQ := Lib.hid (fun q : Nat => (AqTurn.refl h0).drewN q)
  have gs : ((t : Int) == (s.tg : Int)) = true := by rw [hs]; simp
  have hsh := Lib.hid hs
  clear hs
  have g2 : ((s.st : Int) == 2) = false := beq_eq_false_iff_ne.2 (by omega)
  have m2 : ((s.st : Int) != 2) = true := by simp; omega
  clear hst
  clear h h0 hr kp be0 hlt
  unfold rvv rvc
  unfold rvW rvc at hW0
  go_enter Try.func40, Try.ntmps40
  go_wp2_with fail
  refine wp_scope_two 3 9 (by decide) (PrJ (fun v => ∃ q : Nat, v = W0.drewN q) b w.heap.size (.agg #[.int .i64 (t : Int), .int .i64 7, .int .i64 ns, .int .i64 nr, .bool p, .slice X n e]) true) (fun _ _ => False) ?_ ?_ ?_
  · go_wp2_with fail
    go_quiet (fail)
    go_wp2
    go_step3
    exact ⟨rfl, ⟨_, rfl⟩, prf_mk rfl⟩
  · rintro a w' ⟨⟨q, rfl⟩, u, rfl⟩
    unfold prf
    refine ⟨_, rfl, ?_⟩
    go_wp2
    rw [jumps_ret]
    refine bodyPost_ret (results_none rfl _ _ _) rfl ?_
    exact ⟨rfl, TR.out _⟩
  · exact fun _ _ h => h.elim
set_option maxRecDepth 20000 in
set_option maxHeartbeats 4000000 in
theorem aqProc_frM (h : AqP w F b s) (hr : s.Room) {t : Nat} (ht : t < 65536) (n : Nat) (hs : t ≠ s.tg) :
    Calls Try.prog 40 #[.pointer (some ⟨b, 0, none⟩), rvv t 7 ns nr p X n e] w fun r w' => r = .returned (.tuple #[]) ∧ AqTurn F b (s) w w' := by
  obtain ⟨W0, hW0⟩ : ∃ W0, rvW w t 7 ns nr p X n e = W0 := ⟨_, rfl⟩
  have be0 : Below w.heap.size w W0 := by rw [← hW0]; exact rv_below
  have h0 := h.below be0
  have hlt := h.lt
  have kp : ∀ V, Only F W0 V → V.heap[w.heap.size]? = some (.cells (rvc t 7 ns nr p X n e) 75 (0, 0)) := fun V on => rv_keep hlt (by rw [hW0]; exact on)
  obtain ⟨d0, d1, d2, d3, d4, d5⟩ := rv_cells (kp W0 (Only.refl _ _))
  have c4 := h0.c4
  have c5 := h0.c5
  have z5 := h0.z 5
  have ho1 := hr.os
  have ho2 := hr.is
  have ho3 := hr.lo
  have TR := Lib.hid (fun q : Nat => ((AqTurn.refl h0).after be0 hlt).drewN q)
  have FC := Lib.hid (show ∀ (s1 : Aq), s1.lo ≤ 1000000000000 → s1.is.length ≤ 1000000 → ∀ v, AqTurn F b s1 W0 v → Calls Try.prog 48 #[.pointer (some ⟨b, 0, none⟩)] v fun r w' => r = .returned (.tuple #[]) ∧ AqTurn F b s1.fin w w' from fun s1 h1 h2 v T => (aqFin_calls T.1 h1 h2).mono (fun r w' hh => ⟨hh.1, (T.trans hh.2).after be0 hlt⟩))
  have HQ := Lib.hid (fun q : Nat => (AqTurn.refl h0).drewN q)
  have gs : ((t : Int) == (s.tg : Int)) = false := beq_eq_false_iff_ne.2 (by omega)
  clear hs
  clear h h0 hr kp be0 hlt
  unfold rvv rvc
  unfold rvW rvc at hW0
  go_enter Try.func40, Try.ntmps40
  go_wp2_with fail
  refine wp_scope_two 3 9 (by decide) (PrJ (fun v => ∃ q : Nat, v = W0.drewN q) b w.heap.size (.agg #[.int .i64 (t : Int), .int .i64 7, .int .i64 ns, .int .i64 nr, .bool p, .slice X n e]) false) (fun _ _ => False) ?_ ?_ ?_
  · go_wp2_with fail
    go_quiet (fail)
    go_wp2
    go_step3
    exact ⟨rfl, ⟨_, rfl⟩, prf_mk rfl⟩
  · rintro a w' ⟨⟨q, rfl⟩, u, rfl⟩
    unfold prf
    refine ⟨_, rfl, ?_⟩
    go_wp2
    rw [jumps_ret]
    refine bodyPost_ret (results_none rfl _ _ _) rfl ?_
    exact ⟨rfl, TR.out _⟩
  · exact fun _ _ h => h.elim
set_option maxRecDepth 20000 in
set_option maxHeartbeats 4000000 in
theorem aqProc_di2 (h : AqP w F b s) (hr : s.Room) {t : Nat} (ht : t < 65536) (n : Nat) (hs : t = s.tg) (hst : s.st = 2) :
    Calls Try.prog 40 #[.pointer (some ⟨b, 0, none⟩), rvv t 5 ns nr p X n e] w fun r w' => r = .returned (.tuple #[]) ∧ AqTurn F b ((s.send 4 p).fin) w w' := by
  obtain ⟨W0, hW0⟩ : ∃ W0, rvW w t 5 ns nr p X n e = W0 := ⟨_, rfl⟩
  have be0 : Below w.heap.size w W0 := by rw [← hW0]; exact rv_below
  have h0 := h.below be0
  have hlt := h.lt
  have kp : ∀ V, Only F W0 V → V.heap[w.heap.size]? = some (.cells (rvc t 5 ns nr p X n e) 75 (0, 0)) := fun V on => rv_keep hlt (by rw [hW0]; exact on)
  obtain ⟨d0, d1, d2, d3, d4, d5⟩ := rv_cells (kp W0 (Only.refl _ _))
  have c4 := h0.c4
  have c5 := h0.c5
  have z5 := h0.z 5
  have ho1 := hr.os
  have ho2 := hr.is
  have ho3 := hr.lo
  have TR := Lib.hid (fun q : Nat => ((AqTurn.refl h0).after be0 hlt).drewN q)
  have FC := Lib.hid (show ∀ (s1 : Aq), s1.lo ≤ 1000000000000 → s1.is.length ≤ 1000000 → ∀ v, AqTurn F b s1 W0 v → Calls Try.prog 48 #[.pointer (some ⟨b, 0, none⟩)] v fun r w' => r = .returned (.tuple #[]) ∧ AqTurn F b s1.fin w w' from fun s1 h1 h2 v T => (aqFin_calls T.1 h1 h2).mono (fun r w' hh => ⟨hh.1, (T.trans hh.2).after be0 hlt⟩))
  have HQ := Lib.hid (fun q : Nat => (AqTurn.refl h0).drewN q)
  have C1 := pq_mono0 (fun q => aqSend_calls (h0.drewN q) (by omega) 4 p)
  have gs : ((t : Int) == (s.tg : Int)) = true := by rw [hs]; simp
  have hsh := Lib.hid hs
  clear hs
  rw [hst] at c4
  clear hst
  clear h h0 hr kp be0 hlt
  unfold rvv rvc
  unfold rvW rvc at hW0
  go_enter Try.func40, Try.ntmps40
  go_wp2_with fail
  refine wp_scope_two 2 5 (by decide) (PrJ (fun v => ∃ q : Nat, v = W0.drewN q) b w.heap.size (.agg #[.int .i64 (t : Int), .int .i64 5, .int .i64 ns, .int .i64 nr, .bool p, .slice X n e]) true) (PrJ (fun v => AqTurn F b (s.send 4 p) W0 v) b w.heap.size (.agg #[.int .i64 (t : Int), .int .i64 5, .int .i64 ns, .int .i64 nr, .bool p, .slice X n e]) true) ?_ ?_ ?_
  · go_wp2_with fail
    go_quiet (fail)
    go_wp2
    go_step3
    exact ⟨rfl, ⟨_, rfl⟩, prf_mk rfl⟩
  · rintro a w' ⟨⟨q, rfl⟩, u, rfl⟩
    unfold prf
    refine ⟨_, rfl, ?_⟩
    go_wp2_with fail
    refine (C1 _).mono ?_
    rintro e1 w1 ⟨rfl, T1⟩
    have HT := Lib.hid T1
    clear T1 C1
    go_wp2
    go_step3
    exact ⟨rfl, HT.out, prf_mk rfl⟩
  · rintro a w' ⟨T, u, rfl⟩
    unfold prf
    refine ⟨_, rfl, ?_⟩
    have FF := FC.out (s.send 4 p) (by show s.lo ≤ _; omega) (by show s.is.length ≤ _; omega) w' T
    clear T
    go_wp2_with fail
    refine FF.mono ?_
    rintro e9 w9 ⟨rfl, T9⟩
    have FI := Lib.hid T9
    clear T9 FF
    go_wp2
    simp only [jumps]
    go_end0
    exact ⟨rfl, FI.out⟩

set_option maxRecDepth 20000 in
set_option maxHeartbeats 4000000 in
theorem aqProc_di3 (h : AqP w F b s) (hr : s.Room) {t : Nat} (ht : t < 65536) (n : Nat) (hs : t = s.tg) (hst : s.st = 3) :
    Calls Try.prog 40 #[.pointer (some ⟨b, 0, none⟩), rvv t 5 ns nr p X n e] w fun r w' => r = .returned (.tuple #[]) ∧ AqTurn F b ((s.send 4 p).fin) w w' := by
  obtain ⟨W0, hW0⟩ : ∃ W0, rvW w t 5 ns nr p X n e = W0 := ⟨_, rfl⟩
  have be0 : Below w.heap.size w W0 := by rw [← hW0]; exact rv_below
  have h0 := h.below be0
  have hlt := h.lt
  have kp : ∀ V, Only F W0 V → V.heap[w.heap.size]? = some (.cells (rvc t 5 ns nr p X n e) 75 (0, 0)) := fun V on => rv_keep hlt (by rw [hW0]; exact on)
  obtain ⟨d0, d1, d2, d3, d4, d5⟩ := rv_cells (kp W0 (Only.refl _ _))
  have c4 := h0.c4
  have c5 := h0.c5
  have z5 := h0.z 5
  have ho1 := hr.os
  have ho2 := hr.is
  have ho3 := hr.lo
  have TR := Lib.hid (fun q : Nat => ((AqTurn.refl h0).after be0 hlt).drewN q)
  have FC := Lib.hid (show ∀ (s1 : Aq), s1.lo ≤ 1000000000000 → s1.is.length ≤ 1000000 → ∀ v, AqTurn F b s1 W0 v → Calls Try.prog 48 #[.pointer (some ⟨b, 0, none⟩)] v fun r w' => r = .returned (.tuple #[]) ∧ AqTurn F b s1.fin w w' from fun s1 h1 h2 v T => (aqFin_calls T.1 h1 h2).mono (fun r w' hh => ⟨hh.1, (T.trans hh.2).after be0 hlt⟩))
  have HQ := Lib.hid (fun q : Nat => (AqTurn.refl h0).drewN q)
  have C1 := pq_mono0 (fun q => aqSend_calls (h0.drewN q) (by omega) 4 p)
  have gs : ((t : Int) == (s.tg : Int)) = true := by rw [hs]; simp
  have hsh := Lib.hid hs
  clear hs
  rw [hst] at c4
  clear hst
  clear h h0 hr kp be0 hlt
  unfold rvv rvc
  unfold rvW rvc at hW0
  go_enter Try.func40, Try.ntmps40
  go_wp2_with fail
  refine wp_scope_two 2 5 (by decide) (PrJ (fun v => ∃ q : Nat, v = W0.drewN q) b w.heap.size (.agg #[.int .i64 (t : Int), .int .i64 5, .int .i64 ns, .int .i64 nr, .bool p, .slice X n e]) true) (PrJ (fun v => AqTurn F b (s.send 4 p) W0 v) b w.heap.size (.agg #[.int .i64 (t : Int), .int .i64 5, .int .i64 ns, .int .i64 nr, .bool p, .slice X n e]) true) ?_ ?_ ?_
  · go_wp2_with fail
    go_quiet (fail)
    go_wp2
    go_step3
    exact ⟨rfl, ⟨_, rfl⟩, prf_mk rfl⟩
  · rintro a w' ⟨⟨q, rfl⟩, u, rfl⟩
    unfold prf
    refine ⟨_, rfl, ?_⟩
    go_wp2_with fail
    refine (C1 _).mono ?_
    rintro e1 w1 ⟨rfl, T1⟩
    have HT := Lib.hid T1
    clear T1 C1
    go_wp2
    go_step3
    exact ⟨rfl, HT.out, prf_mk rfl⟩
  · rintro a w' ⟨T, u, rfl⟩
    unfold prf
    refine ⟨_, rfl, ?_⟩
    have FF := FC.out (s.send 4 p) (by show s.lo ≤ _; omega) (by show s.is.length ≤ _; omega) w' T
    clear T
    go_wp2_with fail
    refine FF.mono ?_
    rintro e9 w9 ⟨rfl, T9⟩
    have FI := Lib.hid T9
    clear T9 FF
    go_wp2
    simp only [jumps]
    go_end0
    exact ⟨rfl, FI.out⟩

set_option maxRecDepth 20000 in
set_option maxHeartbeats 4000000 in
theorem aqProc_di0 (h : AqP w F b s) (hr : s.Room) {t : Nat} (ht : t < 65536) (n : Nat) (hs : t = s.tg) (hst : s.st ≠ 2 ∧ s.st ≠ 3) :
    Calls Try.prog 40 #[.pointer (some ⟨b, 0, none⟩), rvv t 5 ns nr p X n e] w fun r w' => r = .returned (.tuple #[]) ∧ AqTurn F b (s.refuse t) w w' := by
  obtain ⟨W0, hW0⟩ : ∃ W0, rvW w t 5 ns nr p X n e = W0 := ⟨_, rfl⟩
  have be0 : Below w.heap.size w W0 := by rw [← hW0]; exact rv_below
  have h0 := h.below be0
  have hlt := h.lt
  have kp : ∀ V, Only F W0 V → V.heap[w.heap.size]? = some (.cells (rvc t 5 ns nr p X n e) 75 (0, 0)) := fun V on => rv_keep hlt (by rw [hW0]; exact on)
  obtain ⟨d0, d1, d2, d3, d4, d5⟩ := rv_cells (kp W0 (Only.refl _ _))
  have c4 := h0.c4
  have c5 := h0.c5
  have z5 := h0.z 5
  have ho1 := hr.os
  have ho2 := hr.is
  have ho3 := hr.lo
  have TR := Lib.hid (fun q : Nat => ((AqTurn.refl h0).after be0 hlt).drewN q)
  have FC := Lib.hid (show ∀ (s1 : Aq), s1.lo ≤ 1000000000000 → s1.is.length ≤ 1000000 → ∀ v, AqTurn F b s1 W0 v → Calls Try.prog 48 #[.pointer (some ⟨b, 0, none⟩)] v fun r w' => r = .returned (.tuple #[]) ∧ AqTurn F b s1.fin w w' from fun s1 h1 h2 v T => (aqFin_calls T.1 h1 h2).mono (fun r w' hh => ⟨hh.1, (T.trans hh.2).after be0 hlt⟩))
  have HQ := Lib.hid (fun q : Nat => (AqTurn.refl h0).drewN q)
  have C2 := pq_mono (fun q => aqPut_calls (h0.drewN q) (by omega) ht 6 0 0 false none 0 [] (Rd.nil _ _) (Nat.zero_le _)) be0 hlt
  simp only [List.length_nil] at C2
  have gs : ((t : Int) == (s.tg : Int)) = true := by rw [hs]; simp
  have hsh := Lib.hid hs
  clear hs
  have g2 : ((s.st : Int) == 2) = false := beq_eq_false_iff_ne.2 (by omega)
  have m2 : ((s.st : Int) != 2) = true := by simp; omega
  have g3 : ((s.st : Int) == 3) = false := beq_eq_false_iff_ne.2 (by omega)
  have m3 : ((s.st : Int) != 3) = true := by simp; omega
  clear hst
  clear h h0 hr kp be0 hlt
  unfold rvv rvc
  unfold rvW rvc at hW0
  go_enter Try.func40, Try.ntmps40
  go_wp2_with fail
  refine wp_scope_two 2 9 (by decide) (PrJ (fun v => ∃ q : Nat, v = W0.drewN q) b w.heap.size (.agg #[.int .i64 (t : Int), .int .i64 5, .int .i64 ns, .int .i64 nr, .bool p, .slice X n e]) true) (fun _ _ => False) ?_ ?_ ?_
  · go_wp2_with fail
    go_quiet (fail)
    go_wp2
    go_step3
    exact ⟨rfl, ⟨_, rfl⟩, prf_mk rfl⟩
  · rintro a w' ⟨⟨q, rfl⟩, u, rfl⟩
    unfold prf
    refine ⟨_, rfl, ?_⟩
    go_wp2_with fail
    refine wp_label ?_
    go_wp2_with fail
    refine (C2 _).mono ?_
    rintro e1 w1 ⟨rfl, T1⟩
    have FI := Lib.hid T1
    clear T1 C2
    go_wp2
    rw [jumps_ret]
    refine bodyPost_ret (results_none rfl _ _ _) rfl ?_
    exact ⟨rfl, FI.out⟩
  · exact fun _ _ h => h.elim
set_option maxRecDepth 20000 in
set_option maxHeartbeats 4000000 in
theorem aqProc_diN (h : AqP w F b s) (hr : s.Room) {t : Nat} (ht : t < 65536) (n : Nat) (hs : t ≠ s.tg) :
    Calls Try.prog 40 #[.pointer (some ⟨b, 0, none⟩), rvv t 5 ns nr p X n e] w fun r w' => r = .returned (.tuple #[]) ∧ AqTurn F b (s.refuse t) w w' := by
  obtain ⟨W0, hW0⟩ : ∃ W0, rvW w t 5 ns nr p X n e = W0 := ⟨_, rfl⟩
  have be0 : Below w.heap.size w W0 := by rw [← hW0]; exact rv_below
  have h0 := h.below be0
  have hlt := h.lt
  have kp : ∀ V, Only F W0 V → V.heap[w.heap.size]? = some (.cells (rvc t 5 ns nr p X n e) 75 (0, 0)) := fun V on => rv_keep hlt (by rw [hW0]; exact on)
  obtain ⟨d0, d1, d2, d3, d4, d5⟩ := rv_cells (kp W0 (Only.refl _ _))
  have c4 := h0.c4
  have c5 := h0.c5
  have z5 := h0.z 5
  have ho1 := hr.os
  have ho2 := hr.is
  have ho3 := hr.lo
  have TR := Lib.hid (fun q : Nat => ((AqTurn.refl h0).after be0 hlt).drewN q)
  have FC := Lib.hid (show ∀ (s1 : Aq), s1.lo ≤ 1000000000000 → s1.is.length ≤ 1000000 → ∀ v, AqTurn F b s1 W0 v → Calls Try.prog 48 #[.pointer (some ⟨b, 0, none⟩)] v fun r w' => r = .returned (.tuple #[]) ∧ AqTurn F b s1.fin w w' from fun s1 h1 h2 v T => (aqFin_calls T.1 h1 h2).mono (fun r w' hh => ⟨hh.1, (T.trans hh.2).after be0 hlt⟩))
  have HQ := Lib.hid (fun q : Nat => (AqTurn.refl h0).drewN q)
  have C2 := pq_mono (fun q => aqPut_calls (h0.drewN q) (by omega) ht 6 0 0 false none 0 [] (Rd.nil _ _) (Nat.zero_le _)) be0 hlt
  simp only [List.length_nil] at C2
  have gs : ((t : Int) == (s.tg : Int)) = false := beq_eq_false_iff_ne.2 (by omega)
  clear hs
  clear h h0 hr kp be0 hlt
  unfold rvv rvc
  unfold rvW rvc at hW0
  go_enter Try.func40, Try.ntmps40
  go_wp2_with fail
  refine wp_scope_two 2 9 (by decide) (PrJ (fun v => ∃ q : Nat, v = W0.drewN q) b w.heap.size (.agg #[.int .i64 (t : Int), .int .i64 5, .int .i64 ns, .int .i64 nr, .bool p, .slice X n e]) false) (fun _ _ => False) ?_ ?_ ?_
  · go_wp2_with fail
    go_quiet (fail)
    go_wp2
    go_step3
    exact ⟨rfl, ⟨_, rfl⟩, prf_mk rfl⟩
  · rintro a w' ⟨⟨q, rfl⟩, u, rfl⟩
    unfold prf
    refine ⟨_, rfl, ?_⟩
    go_wp2_with fail
    refine wp_label ?_
    go_wp2_with fail
    refine (C2 _).mono ?_
    rintro e1 w1 ⟨rfl, T1⟩
    have FI := Lib.hid T1
    clear T1 C2
    go_wp2
    rw [jumps_ret]
    refine bodyPost_ret (results_none rfl _ _ _) rfl ?_
    exact ⟨rfl, FI.out⟩
  · exact fun _ _ h => h.elim
end
end Go.Proofs.Ytgkdabllaankcaa

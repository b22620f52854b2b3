/- Out of a log of the program; SameInts. No condition. -/
import Derived.Test.YteofffnfafhgfaaLogMem
import Derived.Test.YteofffnfafhgfaaNumOwn
import Derived.Deep.LoopGhost
namespace Go.Proofs.Yteofffnfafhgfaa
open Go.RowKit
set_option linter.unusedVariables false

theorem ntInt : NT 43 3 .i64 8 := ⟨Try.underlying43, by kernel_rfl, by decide⟩
/-- what Out returns: a new row of these numbers; nothing that was there has turned -/
def LgOut (L : List Nat) (w : World) (e : Ending) (w' : World) : Prop := ∃ A c, e = .returned (.slice A L.length c) ∧ NOwn 3 .i64 w' w.heap.size A c L ∧ Below w.heap.size w w'
theorem range_next (f : Nat → Nat) (i : Nat) : (List.range (i + 1)).map f = (List.range i).map f ++ [f i] := by rw [List.range_succ, List.map_append, List.map_singleton]
section
variable {w : World} {F : Nat → Prop} {b : Nat} {s : Lg}
set_option maxRecDepth 20000 in
set_option maxHeartbeats 400000 in
theorem lgOut_calls (h : LgP w F b s) : Calls Try.prog 22 #[.pointer (some ⟨b, 0, none⟩)] w (LgOut s.out w) := by
  have ok := h.2
  have hm1 : 1 ≤ s.m := by have := ok.m8; omega
  have hm2 := ok.m9
  have hnm := Lg.n_lt ok
  have hol := Lg.out_len s
  have e0 : (s.f + 0) % s.m = s.f := Nat.mod_eq_of_lt ok.f9
  have NUM := Lib.hid (show ∀ i, i ≤ s.n → ((s.f + i) % s.m = s.nx ↔ i = s.n) from fun i hi => by
    rw [Lg.num_ds ok (by omega) (Lg.nx_lt ok), (Lg.num_ds ok hnm (Lg.nx_lt ok)).1 rfl]
    omega)
  have NX := Lib.hid (fun (i : Nat) v => lgNext_calls ((s.f + i) % s.m) s.m v (Nat.mod_lt _ (by omega)) hm1 hm2)
  have ES := Lib.hid (show ∀ i, ((s.f + i) % s.m + 1) % s.m = (s.f + (i + 1)) % s.m from fun i => by rw [Nat.mod_add_mod, Nat.add_assoc])
  have EO := Lib.hid (show s.out = (List.range s.n).map fun i => (s.f + i) % s.m from rfl)
  obtain ⟨⟨A0, c0', vs, hb, _⟩, _⟩ := h
  obtain ⟨c0, c1, c2, c3, c4, c5⟩ := lgcell hb
  have hlt := lt_of_block hb
  have C0 := Lib.hid c0
  have C4 := Lib.hid c4
  have hnb : s.n ≤ 100000 := by omega
  clear hb c0 c1 c2 c4 c5 ok
  generalize s.out = O at *
  generalize s.nx = x at *
  generalize s.n = n at *
  generalize hM : s.m = M at *
  generalize hf : s.f = f at *
  clear hM hf
  have C3 : w.cell? ⟨b, 3, none⟩ = some (.int .i64 (((f + 0) % M : Nat) : Int)) := by rw [e0]; exact c3
  clear c3 e0
  go_enter Try.func22, Try.ntmps22
  go_wp2_with fail
  go_loopg [3, 4] n (fun kx s3 s4 wr => ∃ (i : Nat) (A : Option Addr) (c y : Nat), s3 = .slice A i c ∧ s4 = .int .i64 (y : Int) ∧ i ≤ n ∧ n - i ≤ kx ∧ Aside (y = (f + i) % M) ∧ Aside (NOwn 3 .i64 wr w.heap.size A c ((List.range i).map fun i => (f + i) % M)) ∧ Aside (Below w.heap.size w wr))
  case atStart => exact ⟨0, none, 0, (f + 0) % M, rfl, rfl, by omega, by omega, rfl, NOwn.nil _ _ _ _, Below.refl _ _⟩
  case round =>
    clear C3
    obtain ⟨i, A, c, y, rfl, rfl, hi, hkx, Hy, HN, HB⟩ := hrel
    have hll : ((List.range i).map fun i => (f + i) % M).length = i := by simp
    have k4 := (HB.out.cell (p := ⟨b, 4, none⟩) hlt).trans C4.out
    have nu := NUM.out i hi
    by_cases hin : i = n
    · subst hin
      have hyx : (y : Int) = (x : Int) := by rw [Hy.out, nu.2 rfl]
      have g0 : ((y : Int) != (x : Int)) = false := by rw [hyx]; simp
      have FI := Lib.hid (show LgOut O w (.returned (.slice A i c)) wr from by
        unfold LgOut
        rw [EO.out]
        exact ⟨A, c, by rw [hll], HN.out, HB.out⟩)
      clear hll nu HN HB EO ES NX NUM hyx hol
      go_wp2
      go_ret
      exact FI.out
    · have hlt' : i < n := by omega
      have g0 : ((y : Int) != (x : Int)) = true := by
        have : ¬ (f + i) % M = x := fun e => hin (nu.1 e)
        rw [← Hy.out] at this
        simp; omega
      obtain ⟨A', c', w', r, own, on, kin⟩ := HN.out.app ntInt HB.out.size (by rw [hll]; omega) y
      rw [hll] at r
      have bel : Below w.heap.size w w' := HB.out.trans (on.below (fun k hk => (HN.out.blk_ge k hk).1) HB.out.size)
      have NI := fun v => NX.out i v
      rw [← Hy.out] at NI
      have hy2 : (y + 1) % M = (f + (i + 1)) % M := by rw [Hy.out]; exact ES.out i
      have k0 := (bel.cell (p := ⟨b, 0, none⟩) hlt).trans C0.out
      have FI := Lib.hid (show NOwn 3 .i64 w' w.heap.size A' c' ((List.range (i + 1)).map fun i => (f + i) % M) from by rw [range_next, ← Hy.out]; exact own)
      have B2 : Aside (Below w.heap.size w w') := bel
      have HY2 := Lib.hid hy2
      clear hll nu HN HB EO ES NX NUM hin bel own on kin hy2 Hy
      generalize (y + 1) % M = y' at *
      go_wp2_with (first | (at_builtin; refine Lib.wpList_append_run _ rfl _ _ _ _ rfl _ _ rfl rfl _ _ (r _) ?_) | fail)
      refine (NI _).mono ?_
      rintro e w9 ⟨rfl, rfl⟩
      go_wp2
      go_roundg (n - (i + 1))
      case measure => omega
      case rel => exact ⟨i + 1, A', c', y', by go_num, rfl, by omega, Nat.le_refl _, HY2.out, FI.out, B2⟩
end
end Go.Proofs.Yteofffnfafhgfaa

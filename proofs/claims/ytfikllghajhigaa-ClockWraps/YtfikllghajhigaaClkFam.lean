/- Clocks side by side; the comparison of two lists of ints. No condition. -/
import Derived.Test.YtfikllghajhigaaClkOne
import Derived.BigQuiet
namespace Go.Proofs.Ytfikllghajhigaa
open Go.Proofs Go.RowKit Go.Lib Go.Sort
set_option linter.unusedVariables false

/-- From the block p on lie the clocks F; what was there before stands. -/
def Fam (w v : World) (p : Nat) (F : List (TypeId × Nat × List Nat)) : Prop :=
  (∀ i x, F[i]? = some x → CS v x.1 (p + i) x.2.1 x.2.2) ∧ Below w.heap.size w v ∧ w.heap.size ≤ p ∧ p + F.length ≤ v.heap.size
/-- The slice at A reads as the timers L, and lies behind the first q blocks. -/
def Res (v : World) (q : Nat) (A : Option Addr) (L : List (Fin 32)) : Prop := RdI v A (ints L) ∧ ∀ k, blk A = some k → q ≤ k
def Keeps (q : Nat) (v v' : World) : Prop := ∀ A L, Res v q A L → Res v' q A L
theorem Res.kept {q : Nat} {v v' : World} {A : Option Addr} {L : List (Fin 32)} (k : Keeps q v v') (r : Res v q A L) : Res v' q A L := k A L r
theorem Keeps.only {q : Nat} {v v' : World} {F : Nat → Prop} (o : Only F v v') (hF : ∀ k, F k → k < q) : Keeps q v v' := fun A L r => ⟨r.1.only o (fun k hk hf => by have := r.2 k hk; have := hF k hf; omega), r.2⟩
theorem Keeps.trans {q : Nat} {v v' v'' : World} (h : Keeps q v v') (h' : Keeps q v' v'') : Keeps q v v'' := fun A L r => h' A L (h A L r)
theorem Keeps.drewN (q : Nat) (v : World) (m : Nat) : Keeps q v (v.drewN m) := fun _ _ r => r
section
variable {w v : World} {p i now : Nat} {F : List (TypeId × Nat × List Nat)} {l : List Nat} {t : TypeId}
theorem Fam.bel (h : Fam w v p F) : Below w.heap.size w v := h.2.1
theorem Fam.drewN (h : Fam w v p F) (m : Nat) : Fam w (v.drewN m) p F := ⟨h.1, ⟨h.2.1.os, h.2.1.tape, h.2.1.output, h.2.1.size, h.2.1.block⟩, h.2.2.1, h.2.2.2⟩
theorem Fam.drew (h : Fam w v p F) : Fam w v.drew p F := h.drewN 1
/-- one clock has turned -/
theorem Fam.turn (h : Fam w v p F) {v' : World} {now' : Nat} {l' : List Nat} {x : TypeId × Nat × List Nat} (hi : F[i]? = some x) (hc : CS v' t (p + i) now' l') (on : Only (fun k => k = p + i) v v') : Fam w v' p (F.set i (t, now', l')) := by
  have hl : i < F.length := (List.getElem?_eq_some_iff.1 hi).1
  refine ⟨fun j y hj => ?_, h.2.1.trans (on.below (fun k hk => by have := h.2.2.1; omega) h.2.1.size), h.2.2.1, by have := h.2.2.2; have := on.size; simp; omega⟩
  rw [List.getElem?_set] at hj
  by_cases e : i = j
  · subst e
    rw [if_pos rfl, if_pos hl] at hj
    injection hj with hj
    subst hj
    exact hc
  · rw [if_neg e] at hj
    exact (h.1 j y hj).only on (by omega)
theorem Fam.start (h : Fam w v p F) (hi : F[i]? = some (45, now, l)) (id after : Int) : Calls Try.prog 10 #[.pointer (some ⟨p + i, 0, none⟩), .int .i64 id, .int .i64 after] v fun e v' => e = .returned (.bool (isT id)) ∧ Fam w v' p (F.set i (45, now, startL l id after)) := by
  refine (start_calls (h.1 i _ hi) id after).mono ?_
  rintro e v' ⟨rfl, hc, on⟩
  exact ⟨rfl, h.turn hi hc on⟩
theorem Fam.stop (h : Fam w v p F) (hi : F[i]? = some (45, now, l)) (id : Int) : Calls Try.prog 12 #[.pointer (some ⟨p + i, 0, none⟩), .int .i64 id] v fun e v' => e = .returned (.bool (runs l id)) ∧ Fam w v' p (F.set i (45, now, stopL l id)) := by
  refine (stop_calls (h.1 i _ hi) id).mono ?_
  rintro e v' ⟨rfl, hc, on⟩
  exact ⟨rfl, h.turn hi hc on⟩
theorem Fam.nowC (h : Fam w v p F) (hi : F[i]? = some (45, now, l)) : Calls Try.prog 19 #[.pointer (some ⟨p + i, 0, none⟩)] v fun e v' => e = .returned (.int .u32 (now : Int)) ∧ v' = v := now_calls (h.1 i _ hi)
theorem Fam.left (h : Fam w v p F) (hi : F[i]? = some (45, now, l)) (id : Int) : Calls Try.prog 17 #[.pointer (some ⟨p + i, 0, none⟩), .int .i64 id] v fun e v' => e = .returned (.tuple #[.int .i64 (leftL l id), .bool (runs l id)]) ∧ v' = v := left_calls (h.1 i _ hi) id
theorem Fam.pass (h : Fam w v p F) (hi : F[i]? = some (45, now, l)) (n : Int) : Calls Try.prog 15 #[.pointer (some ⟨p + i, 0, none⟩), .int .i64 n] v fun e v' => ∃ A c L, e = .returned (.slice A L.length c) ∧ Exp l (cut 0 n) L ∧ Res v' (p + F.length) A L ∧ Keeps (p + F.length) v v' ∧ Fam w v' p (F.set i (45, later now (cut 0 n), l.map (· - cut 0 n))) := by
  have hl : i < F.length := (List.getElem?_eq_some_iff.1 hi).1
  refine (pass_calls (h.1 i _ hi) n).mono ?_
  rintro e v' ⟨A, c, L, rfl, hE, hR, hA, hc, on⟩
  exact ⟨A, c, L, rfl, hE, ⟨hR, fun k hk => by have := hA k hk; have := h.2.2.2; omega⟩, Keeps.only on (fun k hk => by omega), h.turn hi hc on⟩
end
theorem Fam.start2 {w W : World} (hb : Below w.heap.size w W) {n1 n2 : Nat} (h1 : n1 < 4294967296) (h2 : n2 < 4294967296) (t1 t2 : TypeId) :
    Fam w ((W.alloc (.cells (cc n1 nought) t1)).alloc (.cells (cc n2 nought) t2)) W.heap.size [(t1, n1, nought), (t2, n2, nought)] := by
  have e1 : ∀ (V : World) (o : Obj), (V.alloc o).heap.size = V.heap.size + 1 := fun V o => by simp
  have b1 := fun (V : World) (o : Obj) => (Below.refl V.heap.size V).alloc (Nat.le_refl _) o
  refine ⟨fun i x hx => ?_, (hb.alloc hb.size _).alloc (by rw [e1]; have := hb.size; omega) _, hb.size, by rw [e1, e1]; exact Nat.le_refl _⟩
  match i with
  | 0 =>
    injection hx with hx
    subst hx
    exact (CS.fresh W t1 h1).only (Only.of_below (fun _ => False) (b1 _ _)) (fun h => h)
  | 1 =>
    injection hx with hx
    subst hx
    have := CS.fresh (W.alloc (.cells (cc n1 nought) t1)) t2 h2
    rw [e1] at this
    exact this
  | i + 2 => cases hx

theorem ints_getD (L : List (Fin 32)) (j : Nat) (hj : j < L.length) : (ints L).getD j 0 = ((L[j].val : Nat) : Int) := by simp [ints, hj]
theorem same_calls {v : World} {q : Nat} {A B : Option Addr} {L : List (Fin 32)} (c c' : Nat) (r1 : Res v q A L) (r2 : Res v q B L) (hl : L.length ≤ 1000000) :
    Calls Try.prog 14 #[.slice A L.length c, .slice B L.length c'] v fun e v' => e = .returned (.bool true) ∧ ∃ m, v' = v.drewN m := by
  have H1 := Lib.hid r1.1
  have H2 := Lib.hid r2.1
  obtain ⟨n, hn⟩ : ∃ n, n = L.length := ⟨_, rfl⟩
  have hi : (ints L).length = L.length := by simp [ints]
  have HN := Lib.hid (show (ints L).length = n by omega)
  have hle : n ≤ 1000000 := by omega
  rw [← hn]
  generalize ints L = M at *
  clear r1 r2 hi hl hn
  have V0 := Lib.hid (show ∃ m, v = v.drewN m from ⟨0, rfl⟩)
  go_enter Try.func14, Try.ntmps14
  go_wp2_with fail
  go_loopg [5] n (fun kx s5 wr => ∃ (i m : Nat), s5 = .int .i64 i ∧ i ≤ n ∧ n - i ≤ kx ∧ Aside (wr = v.drewN m))
  case atStart => exact ⟨0, 0, rfl, by omega, by omega, rfl⟩
  case round =>
    obtain ⟨i, m, rfl, hin, hkx, HW⟩ := hrel
    by_cases hlt : i < n
    · have hltz : (i : Int) < (n : Int) := by omega
      obtain ⟨b1, o1, rfl, _, hc1⟩ := RdI.at_ (k := i) H1.out (by rw [HN.out]; exact hlt)
      obtain ⟨b2, o2, rfl, _, hc2⟩ := RdI.at_ (k := i) H2.out (by rw [HN.out]; exact hlt)
      have k1 : wr.cell? ⟨b1, o1 + i, none⟩ = some (.int .i64 (M.getD i 0)) := by rw [HW.out]; exact hc1
      have k2 : wr.cell? ⟨b2, o2 + i, none⟩ = some (.int .i64 (M.getD i 0)) := by rw [HW.out]; exact hc2
      generalize M.getD i 0 = x at k1 k2
      clear hc1 hc2
      go_wp2_with fail
      go_quiet (fail)
      have HW' : Aside (∃ m', World.drewN wr nq = v.drewN m') := ⟨m + nq, by rw [HW.out]; simp [World.drewN, Nat.add_assoc]⟩
      go_wp2
      go_roundg (n - (i + 1))
      case measure => omega
      case rel => exact ⟨i + 1, _, by go_num, by omega, Nat.le_refl _, HW'.out.choose_spec⟩
    · have hltz : ¬ (i : Int) < (n : Int) := by omega
      go_wp2
      go_ret
      exact ⟨rfl, m, HW.out⟩
end Go.Proofs.Ytfikllghajhigaa

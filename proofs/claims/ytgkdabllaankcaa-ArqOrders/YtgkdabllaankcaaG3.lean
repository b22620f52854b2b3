/- Package arq walked, part 3 of 15 (merged texts: SerNum, StepApp, AlMem, MapRow, ClearRun, StepMap, AoMem). No condition. -/
import Derived.Test.YtgkdabllaankcaaG1
import Derived.Test.YtgkdabllaankcaaG2
import Derived.Deep.AppendLies
import Derived.Deep.RegionHeld3
import Derived.Deep.RegionHeldLaw
import Derived.BigQuiet
import Derived.Maps.OwnSet
import Derived.Lib.SliceRun
import Derived.Maps.OwnOps
import Derived.StillTailTactics
/- Sequence numbers that wrap around: Next and Dist of package serial at every input. Condition: the numbers are of type int. -/
namespace Go.Proofs.Ytgkdabllaankcaa
open Go.RowKit
set_option linter.unusedVariables false

/-- The modulus that a number stands for. -/
def slim (m : Int) : Int := if m < 1 then 1 else if 1073741824 < m then 1073741824 else m
theorem slim_pos (m : Int) : 1 ≤ slim m := by unfold slim; split; omega; split <;> omega
theorem slim_le (m : Int) : slim m ≤ 1073741824 := by unfold slim; split; omega; split <;> omega
theorem slim_low {m : Int} (h : m < 1) : slim m = 1 := by unfold slim; rw [if_pos h]
theorem slim_high {m : Int} (h : 1073741824 < m) : slim m = 1073741824 := by unfold slim; rw [if_neg (by omega), if_pos h]
theorem slim_mid {m : Int} (h : 1 ≤ m) (k : m ≤ 1073741824) : slim m = m := by unfold slim; rw [if_neg (by omega), if_neg (by omega)]
def snxt (n m : Int) : Int := (n % slim m + 1) % slim m
def sdst (a b m : Int) : Int := (b - a) % slim m
def sinw (x low n m : Int) : Bool := decide (sdst low x m < n)
theorem mod_lo (n m : Int) (h : 1 ≤ m) : 0 ≤ n % m := Int.emod_nonneg _ (by omega)
theorem mod_hi (n m : Int) (h : 1 ≤ m) : n % m < m := Int.emod_lt_of_pos _ (by omega)
theorem snxt_lo (n m : Int) : 0 ≤ snxt n m := mod_lo _ _ (slim_pos m)
theorem snxt_hi (n m : Int) : snxt n m < slim m := mod_hi _ _ (slim_pos m)
theorem sdst_lo (a b m : Int) : 0 ≤ sdst a b m := mod_lo _ _ (slim_pos m)
theorem sdst_hi (a b m : Int) : sdst a b m < slim m := mod_hi _ _ (slim_pos m)
theorem sdst_eq (a b m : Int) : (b % slim m - a % slim m) % slim m = sdst a b m := by unfold sdst; rw [Int.sub_emod b a (slim m)]
/-- The remainder that is cut towards nought, and the one that is never negative. -/
theorem tmod_neg {n m : Int} (hm : 1 ≤ m) (h : n.tmod m < 0) : n % m = n.tmod m + m := by
  have a := Int.tmod_eq_emod (a := n) (b := m)
  have b := mod_lo n m hm
  have c := mod_hi n m hm
  split at a <;> omega
theorem tmod_pos {n m : Int} (hm : 1 ≤ m) (h : ¬ n.tmod m < 0) : n % m = n.tmod m := by
  have a := Int.tmod_eq_emod (a := n) (b := m)
  have b := mod_lo n m hm
  have c := mod_hi n m hm
  split at a <;> omega
theorem tmod_bd (n m : Int) (hm : 1 ≤ m) : -m ≤ n.tmod m ∧ n.tmod m < m := by
  by_cases h : n.tmod m < 0
  · have a := tmod_neg hm h; have b := mod_lo n m hm; have c := mod_hi n m hm; rw [a] at b c; omega
  · have a := tmod_pos hm h; have b := mod_lo n m hm; have c := mod_hi n m hm; rw [a] at b c; omega
/-- A number of type int. -/
def I64 (n : Int) : Prop := -9223372036854775808 ≤ n ∧ n ≤ 9223372036854775807
theorem ret_bool {a b : Bool} (h : a = b) : Ending.returned (.bool a) = .returned (.bool b) := by rw [h]

set_option maxHeartbeats 400000 in
theorem serLimit_calls (m : Int) (w : World) (hm : I64 m) :
    Calls Try.prog 64 #[.int .i64 m] w fun e w' => e = .returned (.int .i64 (slim m)) ∧ w = w' := by
  obtain ⟨h1, h2⟩ := hm
  by_cases c1 : m < 1
  · rw [slim_low c1]
    go_enter Try.func64, Try.ntmps64
    go_wp2
    go_ret
    exact ⟨ret_int (by omega), rfl⟩
  · by_cases c2 : 1073741824 < m
    · rw [slim_high c2]
      go_enter Try.func64, Try.ntmps64
      go_wp2
      go_ret
      exact ⟨ret_int (by omega), rfl⟩
    · rw [slim_mid (by omega) (by omega)]
      go_enter Try.func64, Try.ntmps64
      go_wp2
      go_ret
      exact ⟨ret_int (by omega), rfl⟩

set_option maxHeartbeats 400000 in
theorem serResidue_calls (n m : Int) (w : World) (hn : I64 n) (h1 : 1 ≤ m) (h2 : m ≤ 1073741824) :
    Calls Try.prog 65 #[.int .i64 n, .int .i64 m] w fun e w' => e = .returned (.int .i64 (n % m)) ∧ w = w' := by
  obtain ⟨h3, h4⟩ := hn
  obtain ⟨b1, b2⟩ := tmod_bd n m h1
  by_cases c : n.tmod m < 0
  · rw [tmod_neg h1 c]
    by_cases p : 0 ≤ n
    · exfalso; rw [Int.tmod_eq_emod_of_nonneg p] at c; have := mod_lo n m h1; omega
    go_enter Try.func65, Try.ntmps65
    go_wp2
    go_ret
    exact ⟨rfl, rfl⟩
  · by_cases p : 0 ≤ n
    · have q := mod_lo n m h1
      clear c b1 b2
      go_enter Try.func65, Try.ntmps65
      go_wp2
      go_ret
      exact ⟨rfl, rfl⟩
    · rw [tmod_pos h1 c]
      go_enter Try.func65, Try.ntmps65
      go_wp2
      go_ret
      exact ⟨rfl, rfl⟩

set_option maxHeartbeats 400000 in
theorem serNext_calls (n m : Int) (w : World) (hn : I64 n) (hm : I64 m) :
    Calls Try.prog 43 #[.int .i64 n, .int .i64 m] w fun e w' => e = .returned (.int .i64 (snxt n m)) ∧ w = w' := by
  have l1 := slim_pos m
  have l2 := slim_le m
  have g1 := mod_lo n (slim m) l1
  have g2 := mod_hi n (slim m) l1
  unfold snxt
  go_enter Try.func43, Try.ntmps43
  go_wp2_with fail
  refine (serLimit_calls m _ hm).mono ?_
  rintro e w' ⟨rfl, rfl⟩
  go_wp2_with fail
  refine (serResidue_calls n (slim m) _ hn l1 l2).mono ?_
  rintro e w' ⟨rfl, rfl⟩
  go_wp2
  go_ret
  exact ⟨rfl, rfl⟩

set_option maxHeartbeats 400000 in
theorem serDist_calls (a b m : Int) (w : World) (ha : I64 a) (hb : I64 b) (hm : I64 m) :
    Calls Try.prog 66 #[.int .i64 a, .int .i64 b, .int .i64 m] w fun e w' => e = .returned (.int .i64 (sdst a b m)) ∧ w = w' := by
  have l1 := slim_pos m
  have l2 := slim_le m
  have g1 := mod_lo a (slim m) l1
  have g2 := mod_hi a (slim m) l1
  have g3 := mod_lo b (slim m) l1
  have g4 := mod_hi b (slim m) l1
  unfold sdst
  go_enter Try.func66, Try.ntmps66
  go_wp2_with fail
  refine (serLimit_calls m _ hm).mono ?_
  rintro e w' ⟨rfl, rfl⟩
  go_wp2_with fail
  refine (serResidue_calls b (slim m) _ hb l1 l2).mono ?_
  rintro e w' ⟨rfl, rfl⟩
  go_wp2_with fail
  refine (serResidue_calls a (slim m) _ ha l1 l2).mono ?_
  rintro e w' ⟨rfl, rfl⟩
  go_wp2_with fail
  refine (serResidue_calls (b % slim m - a % slim m) (slim m) _ (by unfold I64; omega) l1 l2).mono ?_
  rintro e w' ⟨rfl, rfl⟩
  go_wp2
  go_ret
  exact ⟨rfl, rfl⟩

end Go.Proofs.Ytgkdabllaankcaa
/- append at a step of a region that draws its order, by its run equation. No condition. -/
namespace Go.Proofs.Ytgkdabllaankcaa
open Go
theorem step_append_run {P : Program} (w : World) {ops : Array Oper} {o : Oper} {a : Act} {K : Act → World → Prop} {Q : Exit → Act → World → Prop} {E : Prop} (hgd : o.guard = none) (s x : Operand) (t tn : TypeId)
    (ho : o.op = .call { callee := .builtin .append, args := #[s, x], argTypes := #[t, tn] }) (v1 v2 : Value) (hs : a.eval s = v1) (hx : a.eval x = v2) (v' : Value) (w' : World)
    (hrun : (Builtin.append_ #[t, tn] o.type #[v1, v2]).run P w = .ok v' w') (h : K (a.put o.dst v') w') :
    if Region.wanted o (yielded ops a.tmps) = true then Oper.wp P o a w K Q else E := by
  have hw : Region.wanted o (yielded ops a.tmps) = true := by simp [Region.wanted, hgd]
  rw [if_pos hw]
  exact Lib.wp_append_run w s x t tn ho v1 v2 hs hx v' w' hrun h
end Go.Proofs.Ytgkdabllaankcaa
/- A log of the program in memory, inside the block of an end of a session: its fields and its messages; New, Len, Clear, sent, before. No condition. -/
namespace Go.Proofs.Ytgkdabllaankcaa
open Go.RowKit
set_option linter.unusedVariables false

/-- what stands around the log in the block: six cells and thirteen -/
structure Rl where
  (p0 p1 p2 p3 p4 p5 q0 q1 q2 q3 q4 q5 q6 q7 q8 q9 q10 q11 q12 : Value)
/-- the cells of an end of a session, seen from its log -/
def alc (R : Rl) (m W Q f x : Nat) (A : Option Addr) (k c : Nat) : Array Value := #[R.p0, R.p1, R.p2, R.p3, R.p4, R.p5, .int .i64 (m : Int), .int .i64 (W : Int), .int .i64 (Q : Int), .int .i64 (f : Int), .int .i64 (x : Int), .slice A k c, R.q0, R.q1, R.q2, R.q3, R.q4, R.q5, R.q6, R.q7, R.q8, R.q9, R.q10, R.q11, R.q12]
/-- The block b holds a log with these fields; it, its row and its messages lie in F. -/
def AlRaw (w : World) (F : Nat → Prop) (b : Nat) (R : Rl) (m W Q f x : Nat) (l : List (List UInt8)) : Prop :=
  ∃ A c vs, w.heap[b]? = some (.cells (alc R m W Q f x A l.length c) 65 (0, 0)) ∧ MidV 39 w A c vs ∧ Pcs w F vs l ∧ F b ∧ (∀ k, blk A = some k → F k) ∧ ∀ k, F k → k < w.heap.size
/-- The block b holds a log in the state s. -/
def AlP (w : World) (F : Nat → Prop) (b : Nat) (R : Rl) (s : Lg) : Prop := AlRaw w F b R s.m s.W s.Q s.f s.nx s.l ∧ s.Ok
/-- The log has come into the state s; nothing but it has turned. -/
def AlTurn (F : Nat → Prop) (b : Nat) (R : Rl) (s : Lg) (w w' : World) : Prop := AlP w' (more F w w') b R s ∧ Only F w w'
section
variable {w w' : World} {F G : Nat → Prop} {b m W Q f x : Nat} {R : Rl} {l : List (List UInt8)} {s : Lg} {A : Option Addr} {k c : Nat}
theorem alcell (h : w.heap[b]? = some (.cells (alc R m W Q f x A k c) 65 (0, 0))) :
    w.cell? ⟨b, 6, none⟩ = some (.int .i64 (m : Int)) ∧ w.cell? ⟨b, 7, none⟩ = some (.int .i64 (W : Int)) ∧ w.cell? ⟨b, 8, none⟩ = some (.int .i64 (Q : Int)) ∧ w.cell? ⟨b, 9, none⟩ = some (.int .i64 (f : Int)) ∧ w.cell? ⟨b, 10, none⟩ = some (.int .i64 (x : Int)) ∧ w.cell? ⟨b, 11, none⟩ = some (.slice A k c) := by
  refine ⟨?_, ?_, ?_, ?_, ?_, ?_⟩ <;> rw [cell_of_row w b _ _ _ (0, 0) h] <;> rfl
theorem AlRaw.lt (h : AlRaw w F b R m W Q f x l) : ∀ k, F k → k < w.heap.size := by obtain ⟨_, _, _, _, _, _, _, _, h⟩ := h; exact h
theorem AlRaw.only (h : AlRaw w F b R m W Q f x l) (on : Only G w w') (hd : ∀ k, F k → ¬ G k) : AlRaw w' F b R m W Q f x l := by
  obtain ⟨A, c, vs, h1, h2, h3, h4, h5, h6⟩ := h
  exact ⟨A, c, vs, (on.block b (h6 b h4) (hd b h4)).trans h1, h2.only on (fun k hk => hd k (h5 k hk)), Pcs.only on (fun k hk _ => hd k hk) (fun _ h => h) h3, h4, h5, fun k hk => Nat.lt_of_lt_of_le (h6 k hk) on.size⟩
theorem AlRaw.drewN (h : AlRaw w F b R m W Q f x l) (n : Nat) : AlRaw (w.drewN n) F b R m W Q f x l :=
  h.only (G := fun _ => False) ⟨rfl, rfl, rfl, Nat.le_refl _, fun _ _ _ => rfl⟩ (fun _ _ h => h)
theorem AlRaw.more (h : AlRaw w' F b R m W Q f x l) (hlt : ∀ k, F k → k < w.heap.size) (hs : w.heap.size ≤ w'.heap.size) : AlRaw w' (more F w w') b R m W Q f x l := by
  obtain ⟨A, c, vs, h1, h2, h3, h4, h5, h6⟩ := h
  exact ⟨A, c, vs, h1, h2, Pcs.only (G := fun _ => False) (Only.refl _ _) (fun _ _ _ h => h) (fun _ h => .inl h) h3, .inl h4, fun k hk => .inl (h5 k hk), more_lt hlt hs⟩
theorem AlP.ok (h : AlP w F b R s) : s.Ok := h.2
theorem AlP.lt (h : AlP w F b R s) : ∀ k, F k → k < w.heap.size := h.1.lt
theorem AlP.only (h : AlP w F b R s) (on : Only G w w') (hd : ∀ k, F k → ¬ G k) : AlP w' F b R s := ⟨h.1.only on hd, h.2⟩
theorem AlP.drewN (h : AlP w F b R s) (n : Nat) : AlP (w.drewN n) F b R s := ⟨h.1.drewN n, h.2⟩
theorem AlTurn.of_same (h : AlP w' F b R s) (on : Only F w w') (hlt : ∀ k, F k → k < w.heap.size) : AlTurn F b R s w w' := ⟨⟨h.1.more hlt on.size, h.2⟩, on⟩
theorem AlTurn.refl (h : AlP w F b R s) : AlTurn F b R s w w := .of_same h (Only.refl _ _) h.lt
theorem AlTurn.from_drewN {n : Nat} (h : AlTurn F b R s (w.drewN n) w') : AlTurn F b R s w w' := ⟨h.1, ⟨h.2.os, h.2.tape, h.2.output, h.2.size, h.2.block⟩⟩
theorem AlTurn.drewN (h : AlTurn F b R s w w') (n : Nat) : AlTurn F b R s w (w'.drewN n) := ⟨⟨h.1.1.drewN n, h.1.2⟩, ⟨h.2.os, h.2.tape, h.2.output, h.2.size, h.2.block⟩⟩
/-- its row and its messages do not lie in its own block -/
theorem alrow_apart (hb : w.heap[b]? = some (.cells (alc R m W Q f x A k c) 65 (0, 0))) {A' : Option Addr} {c' : Nat} {vs : List Value} (hA : MidV 39 w A' c' vs) : blk A' ≠ some b := fun e => by
  obtain ⟨cur, h⟩ := hA.type b e
  exact types_apart (by decide) h hb
theorem alpcs_apart (hb : w.heap[b]? = some (.cells (alc R m W Q f x A k c) 65 (0, 0))) : ∀ k, F k → (∃ cur, w.heap[k]? = some (.cells cur 5 (0, 0))) → ¬ k = b := fun k _ h e => by
  obtain ⟨cur, h⟩ := h
  rw [e] at h
  exact types_apart (by decide) h hb
theorem pcs_off_row {vs : List Value} (hA : MidV 39 w A c vs) : ∀ k, F k → (∃ cur, w.heap[k]? = some (.cells cur 5 (0, 0))) → ¬ blk A = some k := fun k _ h e => by
  obtain ⟨cur, h⟩ := h
  obtain ⟨cur', h'⟩ := hA.type k e
  exact types_apart (by decide) h h'
/-- the first number has turned -/
theorem AlRaw.setF (h : AlRaw w F b R m W Q f x l) (f' : Nat) : w.frozen? ⟨b, 9, none⟩ = false ∧ AlRaw (w.setCell ⟨b, 9, none⟩ (.int .i64 (f' : Int))) F b R m W Q f' x l ∧ Only F w (w.setCell ⟨b, 9, none⟩ (.int .i64 (f' : Int))) := by
  obtain ⟨A, c, vs, h1, h2, h3, h4, h5, h6⟩ := h
  have on := only_set w ⟨b, 9, none⟩ (.int .i64 (f' : Int))
  exact ⟨frozen_of_row w b 9 _ _ h1, ⟨A, c, vs, heap_setCell_same w b 9 _ _ _ h1, h2.only on (fun k hk e => alrow_apart h1 h2 (by rw [hk, e])), Pcs.only on (alpcs_apart h1) (fun _ h => h) h3, h4, h5, fun k hk => Nat.lt_of_lt_of_le (h6 k hk) on.size⟩, on.mono (fun k _ e => by rw [e]; exact h4)⟩
/-- the next number has turned -/
theorem AlRaw.setX (h : AlRaw w F b R m W Q f x l) (x' : Nat) : w.frozen? ⟨b, 10, none⟩ = false ∧ AlRaw (w.setCell ⟨b, 10, none⟩ (.int .i64 (x' : Int))) F b R m W Q f x' l ∧ Only F w (w.setCell ⟨b, 10, none⟩ (.int .i64 (x' : Int))) := by
  obtain ⟨A, c, vs, h1, h2, h3, h4, h5, h6⟩ := h
  have on := only_set w ⟨b, 10, none⟩ (.int .i64 (x' : Int))
  exact ⟨frozen_of_row w b 10 _ _ h1, ⟨A, c, vs, heap_setCell_same w b 10 _ _ _ h1, h2.only on (fun k hk e => alrow_apart h1 h2 (by rw [hk, e])), Pcs.only on (alpcs_apart h1) (fun _ h => h) h3, h4, h5, fun k hk => Nat.lt_of_lt_of_le (h6 k hk) on.size⟩, on.mono (fun k _ e => by rw [e]; exact h4)⟩
/-- the row has become another one -/
theorem alraw_setL {l' : List (List UInt8)} {A' : Option Addr} {c' : Nat} {vs' : List Value} (h1 : w.heap[b]? = some (.cells (alc R m W Q f x A k c) 65 (0, 0))) (h4 : F b) (hlt : ∀ k, F k → k < w.heap.size)
    (hA : MidV 39 w A' c' vs') (hF : ∀ k, blk A' = some k → F k) (hP : Pcs w F vs' l') : w.frozen? ⟨b, 11, none⟩ = false ∧ AlRaw (w.setCell ⟨b, 11, none⟩ (.slice A' l'.length c')) F b R m W Q f x l' ∧ Only F w (w.setCell ⟨b, 11, none⟩ (.slice A' l'.length c')) := by
  have on := only_set w ⟨b, 11, none⟩ (.slice A' l'.length c')
  exact ⟨frozen_of_row w b 11 _ _ h1, ⟨A', c', vs', heap_setCell_same w b 11 _ _ _ h1, hA.only on (fun k hk e => alrow_apart h1 hA (by rw [hk, e])), Pcs.only on (alpcs_apart h1) (fun _ h => h) hP, h4, hF, fun k hk => Nat.lt_of_lt_of_le (hlt k hk) on.size⟩, on.mono (fun k _ e => by rw [e]; exact h4)⟩
end
section
variable {w : World} {F : Nat → Prop} {b m W Q f x : Nat} {R : Rl} {l : List (List UInt8)} {s : Lg}
theorem alDist_calls (a k M : Nat) (w : World) (h1 : a ≤ 32768) (h2 : k ≤ 32768) (h3 : 1 ≤ M) (h4 : M ≤ 32768) (d : Nat) (hd : ((k : Int) - (a : Int)) % (M : Int) = (d : Int)) :
    Calls Try.prog 66 #[.int .i64 (a : Int), .int .i64 (k : Int), .int .i64 (M : Int)] w fun e w' => e = .returned (.int .i64 (d : Int)) ∧ w' = w := by
  refine (serDist_calls a k M w (by unfold I64; omega) (by unfold I64; omega) (by unfold I64; omega)).mono ?_
  rintro e w' ⟨rfl, rfl⟩
  unfold sdst
  rw [slim_mid (by omega) (by omega), hd]
  exact ⟨rfl, rfl⟩
theorem alNext_calls (k M : Nat) (w : World) (h2 : k < M) (h3 : 1 ≤ M) (h4 : M ≤ 32768) :
    Calls Try.prog 43 #[.int .i64 (k : Int), .int .i64 (M : Int)] w fun e w' => e = .returned (.int .i64 (((k + 1) % M : Nat) : Int)) ∧ w' = w := by
  refine (serNext_calls k M w (by unfold I64; omega) (by unfold I64; omega)).mono ?_
  rintro e w' ⟨rfl, rfl⟩
  unfold snxt
  rw [slim_mid (by omega) (by omega)]
  refine ⟨ret_int ?_, rfl⟩
  rw [Int.emod_eq_of_lt (a := (k : Int)) (by omega) (by omega), Int.natCast_emod]
  rfl
theorem alSent_calls (h : AlP w F b R s) : Calls Try.prog 44 #[.pointer (some ⟨b, 6, none⟩)] w fun e w' => e = .returned (.int .i64 (s.n : Int)) ∧ ∃ q, w' = w.drewN q := by
  have ok := h.2
  have D := fun v => alDist_calls s.f s.nx s.m v (by have := ok.f9; have := ok.m9; omega) (by have := Lg.nx_lt ok; have := ok.m9; omega) (by have := ok.m8; omega) ok.m9 s.n (Lg.sent_int ok)
  obtain ⟨⟨A, c, vs, hb, _⟩, _⟩ := h
  obtain ⟨c0, c1, c2, c3, c4, c5⟩ := alcell hb
  clear hb c1 c2 c5 ok
  generalize s.f = f at *
  generalize s.m = m at *
  generalize s.n = n at *
  generalize s.nx = x at *
  go_enter Try.func44, Try.ntmps44
  go_wp2_with fail
  go_quiet (first | (go_at_call 66; exact Calls.quiet_of_same (D _)))
  go_wp2
  go_ret
  exact ⟨rfl, _, rfl⟩
theorem alBefore_calls (h : AlP w F b R s) (k : Int) (hk : I64 k) : Calls Try.prog 67 #[.pointer (some ⟨b, 6, none⟩), .int .i64 k] w fun e w' => e = .returned (.tuple #[.int .i64 ((if s.isN k then s.ds k.toNat else 0 : Nat) : Int), .bool (s.isN k)]) ∧ ∃ q, w' = w.drewN q := by
  have ok := h.2
  obtain ⟨⟨A, c, vs, hb, _⟩, _⟩ := h
  obtain ⟨c0, c1, c2, c3, c4, c5⟩ := alcell hb
  obtain ⟨k1, k2⟩ := hk
  clear hb c1 c2 c5 c4
  by_cases h0 : k < 0
  · rw [show s.isN k = false by unfold Lg.isN; simp; omega]
    clear ok c0 c3
    go_enter Try.func67, Try.ntmps67
    go_wp2
    go_ret2
    exact ⟨rfl, 0, rfl⟩
  · have h0' : (k < 0) = False := by simp; omega
    by_cases h1 : k < (s.m : Int)
    · obtain ⟨j, rfl⟩ : ∃ j : Nat, k = j := ⟨k.toNat, by omega⟩
      have hj : j < s.m := by omega
      rw [show s.isN (j : Int) = true by unfold Lg.isN; simp; omega]
      have D := fun v => alDist_calls s.f j s.m v (by have := ok.f9; have := ok.m9; omega) (by have := ok.m9; omega) (by have := ok.m8; omega) ok.m9 (s.ds j) (Lg.dist_int ok hj)
      have g1 : ¬ (s.m : Int) ≤ (j : Int) := by omega
      rw [if_pos rfl, Int.toNat_natCast]
      clear ok h0 h0' h1 hj
      generalize s.ds j = d at *
      generalize s.f = f at *
      generalize s.m = m at *
      go_enter Try.func67, Try.ntmps67
      go_wp2_with fail
      go_quiet (first | (go_at_call 66; exact Calls.quiet_of_same (D _)))
      go_wp2
      go_ret2
      exact ⟨rfl, _, rfl⟩
    · rw [show s.isN k = false by unfold Lg.isN; simp; omega]
      have g1 : (s.m : Int) ≤ k := by omega
      clear ok c3 h1
      generalize s.m = m at *
      go_enter Try.func67, Try.ntmps67
      go_wp2
      go_ret2
      exact ⟨rfl, 0, rfl⟩
theorem alClear_calls (h : AlP w F b R s) : Calls Try.prog 53 #[.pointer (some ⟨b, 6, none⟩)] w fun e w' => e = .returned (.int .i64 (s.l.length : Int)) ∧ AlP w' F b R s.clear ∧ Only F w w' := by
  have okC := h.2.clear
  have hnx := Lg.clear_nx s
  obtain ⟨⟨A, c, vs, h1, h2, h3, h4, h5, h6⟩, ok⟩ := h
  obtain ⟨c0, c1, c2, c3, c4, c5⟩ := alcell h1
  obtain ⟨z1, raw1, on1⟩ := alraw_setL (F := F) (l' := []) (vs' := []) (A' := none) (c' := 0) h1 h4 h6 (MidV.nil _ _) (fun k hk => by simp [blk] at hk) trivial
  obtain ⟨z2, raw2, on2⟩ := raw1.setF 0
  obtain ⟨z3, raw3, on3⟩ := raw2.setX 0
  have FI := Lib.hid (show AlP _ F b R s.clear ∧ Only F w _ from ⟨⟨by rw [hnx]; exact raw3, okC⟩, (on1.trans on2 (fun _ _ h => h)).trans on3 (fun _ _ h => h)⟩)
  simp only [List.length_nil] at FI
  have y3 := frozen_of_row w b 9 _ _ h1
  have y4 := frozen_of_row w b 10 _ _ h1
  clear z2 z3
  clear h1 h2 h3 h4 h5 h6 ok raw1 raw2 raw3 on1 on2 on3 okC hnx c0 c1 c2
  generalize s.l.length = n at *
  generalize s.f = f at *
  generalize s.nx = x at *
  go_enter Try.func53, Try.ntmps53
  go_wp2
  go_ret
  exact ⟨rfl, FI.out⟩
end
end Go.Proofs.Ytgkdabllaankcaa
/- A map by number in memory, told as a row of pairs: look-up, store, delete, len, clear. No condition. -/
namespace Go.Proofs.Ytgkdabllaankcaa
open Go.RowKit Go.Maps Go.ChangeMaps Go.MapKept
open Go.WideElems (Fit rg)
set_option linter.unusedVariables false

/-- an element's value, as it stands -/
def tokR (v : Value) : Option (DataW Value × List MemPlace) := some (.held v, [])
theorem mpKeyed : Keyed Try.prog 3 := int_keyed (q := .i64) Try.underlying3
theorem mpZero (w : World) : (zeroValue 39).run Try.prog w = .ok (.slice none 0 0) w := by kernel_rfl
theorem mpKey {k : Int} (h0 : 0 ≤ k) (h1 : k < 32768) : keyOf Try.prog 3 (.int .i64 k) = some (.int .i64 k) := keyOf_int_mk Try.underlying3 (by
  exact WalkArith.wf_i64 (by omega))
theorem keyLit (k : Int) : WideAt.IsKeyLit (.int .i64 k) := trivial
/-- Block B is a map that holds these values at these numbers. -/
def MpR (w : World) (B : Nat) (V : List (Int × Value)) : Prop :=
  ∃ D : DataW Value, w.ownsMap Try.prog 3 tokR B V.length D ∧ Tidy D ∧ size D = V.length ∧ ∀ (k : Int) z, D.atKey (.int .i64 k) z = match lk V k with | some v => .held v | none => z
section
variable {w w' : World} {B : Nat} {V : List (Int × Value)} {D : DataW Value}
theorem own_size {n : Nat} (h : w.ownsMap Try.prog 3 tokR B n D) : w.ownsMap Try.prog 3 tokR B (size D) D := by
  obtain ⟨es, clock, hb, F, hs, rfl⟩ := h
  exact ⟨es, clock, hb, F, by rw [show size (.map ((es.toList.map (rg Try.prog 3 tokR)).foldr DataW.insert [])) = es.size by simp [size, length_sorted]]; exact Nat.le_refl _, rfl⟩
theorem MpR.made (w : World) : MpR (w.alloc (.map #[] 0)) w.heap.size [] := ⟨.map [], World.ownsMap_made w _ _ _, tidy_empty, rfl, fun k z => rfl⟩
theorem MpR.block (h : MpR w B V) (hb : w'.heap[B]? = w.heap[B]?) : MpR w' B V := by
  obtain ⟨D, ⟨es, clock, h1, F, hs, hD⟩, h2⟩ := h
  exact ⟨D, ⟨es, clock, hb.trans h1, F, hs, hD⟩, h2⟩
theorem MpR.lt (h : MpR w B V) : B < w.heap.size := by obtain ⟨D, h1, _⟩ := h; exact h1.lt
theorem MpR.only {G : Nat → Prop} (h : MpR w B V) (on : Only G w w') (hd : ¬ G B) : MpR w' B V := h.block (on.block B h.lt hd)
theorem MpR.notCells (h : MpR w B V) {cur : Array Value} {t : TypeId} (hc : w.heap[B]? = some (.cells cur t (0, 0))) : False := by
  obtain ⟨D, ⟨es, clock, h1, _⟩, _⟩ := h
  rw [hc] at h1
  cases h1
theorem has_of (hD : ∀ (k : Int) z, D.atKey (.int .i64 k) z = match lk V k with | some v => .held v | none => z) (k : Int) : has D (.int .i64 k) = (lk V k).isSome := by
  cases hk : lk V k with
  | none => exact has_false_of_atKey (fun z => by rw [hD k z, hk])
  | some v => exact has_true_of_atKey (y := .held v) (fun z => by rw [hD k z, hk])
set_option maxRecDepth 20000 in
theorem MpR.look (h : MpR w B V) {k : Int} (h0 : 0 ≤ k) (h1 : k < 32768) : (Instr.lookup 61 (.map (some B)) (.int .i64 k) true).run Try.prog w = .ok (.tuple #[(lk V k).getD (.slice none 0 0), .bool (lk V k).isSome]) w := by
  obtain ⟨D, h2, _, _, h4⟩ := h
  obtain ⟨v, ps, hr, hv⟩ := h2.look_ok mpKeyed Try.underlying61 (mpZero w) (zd := .held (.slice none 0 0)) (zp := []) rfl (mpKey h0 h1)
  rw [has_of h4] at hr
  rw [h4 k] at hv
  have hvv : v = (lk V k).getD (.slice none 0 0) := by
    unfold tokR at hv
    injection hv with hv
    injection hv with hv _
    cases hk : lk V k with
    | none => rw [hk] at hv; injection hv
    | some u => rw [hk] at hv; injection hv
  rw [← hvv]
  exact hr
theorem Only.grownB (h : w.grownBy w' (some B)) : Only (fun k => k = B) w w' := Only.grown h (fun k hk => by injection hk with hk; exact hk.symm)
theorem MpR.store (h : MpR w B V) {k : Int} (h0 : 0 ≤ k) (h1 : k < 32768) (hn : lk V k = none) (hl : V.length < maxLen) (v : Value) :
    ∃ w', (Instr.mapUpdate 61 (.map (some B)) (.int .i64 k) v).run Try.prog w = .ok () w' ∧ MpR w' B (V ++ [(k, v)]) ∧ Only (fun k => k = B) w w' := by
  obtain ⟨D, h2, h3, h4, h5⟩ := h
  obtain ⟨w', hr, ho, hg⟩ := h2.update mpKeyed Try.underlying61 hl (mpKey h0 h1) (d := .held v) (ps := []) (val := v) rfl
  refine ⟨w', hr, ⟨D.put (.int .i64 k) (.held v), ?_, h3.put (keyLit k) _, ?_, fun j z => ?_⟩, Only.grownB hg⟩
  · simpa using ho
  · rw [size_put h3, has_of h5, hn, if_neg (by simp), h4]; simp
  · rw [lk_snoc_new hn]
    by_cases e : j = k
    · subst e
      rw [atKey_put_same h3.isMap (keyLit j), if_pos rfl]
    · rw [atKey_put_other (fun h => e (by injection h)), if_neg e, h5]
theorem MpR.drop (h : MpR w B V) (hds : Ds V) {k : Int} (h0 : 0 ≤ k) (h1 : k < 32768) :
    ∃ w', (∀ ty, (Builtin.delete_ #[61, 3] ty #[.map (some B), .int .i64 k]).run Try.prog w = .ok (.tuple #[]) w') ∧ MpR w' B (dl V k) ∧ Only (fun k => k = B) w w' := by
  obtain ⟨D, h2, h3, h4, h5⟩ := h
  obtain ⟨w', hr, ho, hg⟩ := h2.drop mpKeyed Try.underlying61 (mpKey h0 h1) 0
  have hsz : size (D.del (.int .i64 k)) = (dl V k).length := by
    have := size_del (k := .int .i64 k) h3
    rw [has_of h5, h4] at this
    cases hk : lk V k with
    | none => rw [hk] at this; simp at this; rw [dl_none hk]; exact this
    | some v => rw [hk] at this; have h6 := dl_len_some hk; simp at this; omega
  refine ⟨w', fun ty => hr, ⟨D.del (.int .i64 k), ?_, h3.del _, hsz, fun j z => ?_⟩, Only.grownB hg.grown⟩
  · rw [← hsz]; exact own_size ho
  · by_cases e : j = k
    · subst e
      rw [atKey_del_same, lk_dl_same hds]
    · rw [atKey_del_other (fun h => e (by injection h)), lk_dl_other e, h5]
theorem MpR.len (h : MpR w B V) : ∀ ty, (Builtin.len_ #[61] ty #[.map (some B)]).run Try.prog w = .ok (.int .i64 (V.length : Int)) w := by
  obtain ⟨D, h2, h3, h4, h5⟩ := h
  intro ty
  rw [← h4]
  exact h2.len Try.underlying61 ty
theorem MpR.clear (h : MpR w B V) : ∃ w', (∀ ty, (Builtin.clear_ #[61] ty #[.map (some B)]).run Try.prog w = .ok (.tuple #[]) w') ∧ MpR w' B [] ∧ Only (fun k => k = B) w w' := by
  obtain ⟨D, ⟨es, clock, hb, F, hs, hD⟩, h3, h4, h5⟩ := h
  refine ⟨setBlock w B (.map #[] clock), fun ty => ?_, ⟨.map [], ⟨#[], clock, heap_setBlock_same hb _, ⟨by simp, ?_, by simp⟩, Nat.le_refl _, rfl⟩, tidy_empty, rfl, fun k z => rfl⟩, ⟨rfl, rfl, rfl, by simp [setBlock], fun k _ hk => heap_setBlock_other hb _ hk⟩⟩
  · simp [Builtin.clear_, run_underlying Try.underlying61, MapKept.run_getObj_map hb, MapKept.run_setObj_map _ hb, Result.andThen]
    rfl
  · exact stamped_empty _
end
end Go.Proofs.Ytgkdabllaankcaa
/- 'clear' of a slice by its run equation. No condition. -/
namespace Go.Proofs.Ytgkdabllaankcaa
open Go.RowKit
set_option linter.unusedVariables false

/-- 'clear' by its run equation -/
theorem wpList_clear_run (w : World) {ops : Array Oper} {rest : List Oper} {o : Oper} {a : Act} {Q : Exit → Act → World → Prop} (hgd : o.guard = none) (x : Operand) (t : TypeId)
    (ho : o.op = .call { callee := .builtin .clear, args := #[x], argTypes := #[t] }) (vx : Value) (hx : a.eval x = vx)
    (v' : Value) (w' : World) (hr : (Builtin.clear_ #[t] o.type #[vx]).run Try.prog w = .ok v' w') (h : wpList Try.prog ops Q rest (a.put o.dst v') w') : wpList Try.prog ops Q (o :: rest) a w :=
  wpList_plain hgd fun _ hK => by
    unfold Oper.wp execOp
    simp only [ho, resolve, invoke, builtin, Sem.run_bind, Sem.run_pure, Result.andThen_ok, List.map_toArray, List.map_cons, List.map_nil, hx, hr]
    exact hK _ _ h
end Go.Proofs.Ytgkdabllaankcaa
/- A map's look-up, store and delete at an operation, by their run equations. No condition. -/
namespace Go.Proofs.Ytgkdabllaankcaa
open Go
set_option linter.unusedVariables false

section
variable {P : Program} (w : World) {ops : Array Oper} {rest : List Oper} {o : Oper} {a : Act} {Q : Exit → Act → World → Prop} {K : Act → World → Prop}
theorem wp_mapUpdate_run (m x v : Operand) (t : TypeId) (ho : o.op = Op.mapUpdate t m x v) (vm vx vv : Value) (hm : a.eval m = vm) (hx : a.eval x = vx) (hv : a.eval v = vv) (w' : World)
    (hr : (Instr.mapUpdate t vm vx vv).run P w = .ok () w') (h : K (a.put o.dst undef) w') : o.wp P a w K Q := by
  unfold Oper.wp
  simp [execOp, ho, hm, hx, hv, hr, Result.andThen]
  exact h
theorem wpList_mapUpdate_run (hgd : o.guard = none) (m x v : Operand) (t : TypeId) (ho : o.op = Op.mapUpdate t m x v) (vm vx vv : Value) (hm : a.eval m = vm) (hx : a.eval x = vx) (hv : a.eval v = vv) (w' : World)
    (hr : (Instr.mapUpdate t vm vx vv).run P w = .ok () w') (h : wpList P ops Q rest (a.put o.dst undef) w') : wpList P ops Q (o :: rest) a w :=
  wpList_plain hgd fun _ hK => wp_mapUpdate_run w m x v t ho vm vx vv hm hx hv w' hr (hK _ _ h)
theorem step_mapUpdate_run {E : Prop} (hgd : o.guard = none) (m x v : Operand) (t : TypeId) (ho : o.op = Op.mapUpdate t m x v) (vm vx vv : Value) (hm : a.eval m = vm) (hx : a.eval x = vx) (hv : a.eval v = vv) (w' : World)
    (hr : (Instr.mapUpdate t vm vx vv).run P w = .ok () w') (h : K (a.put o.dst undef) w') :
    if Region.wanted o (yielded ops a.tmps) = true then Oper.wp P o a w K Q else E := by
  have hw : Region.wanted o (yielded ops a.tmps) = true := by simp [Region.wanted, hgd]
  rw [if_pos hw]
  exact wp_mapUpdate_run w m x v t ho vm vx vv hm hx hv w' hr h
theorem wpList_lookup_run (hgd : o.guard = none) (m x : Operand) (t : TypeId) (ho : o.op = Op.lookup t m x true) (vm vx : Value) (hm : a.eval m = vm) (hx : a.eval x = vx) (v' : Value)
    (hr : (Instr.lookup t vm vx true).run P w = .ok v' w) (h : wpList P ops Q rest (a.put o.dst v') w) : wpList P ops Q (o :: rest) a w :=
  wpList_plain hgd fun _ hK => by
    unfold Oper.wp
    simp [execOp, ho, hm, hx, hr, Result.andThen]
    exact hK _ _ h
/-- a look-up in a region that draws its order and only reads -/
theorem quiet_lookup {C : World → Prop} {K : Act → Prop} (m x : Operand) (t : TypeId) (ho : o.op = Op.lookup t m x true) (vm vx : Value) (hm : a.eval m = vm) (hx : a.eval x = vx) (v : Value)
    (hr : ∀ w, C w → (Instr.lookup t vm vx true).run P w = .ok v w) (hk : K (a.put o.dst v)) : o.quiet P a C K :=
  ⟨v, fun w hw => by
    unfold Oper.quietAt
    simp [execOp, ho, hm, hx, hr w hw, Result.andThen, Oper.quietUpon], hk⟩
theorem wpList_delete_run (hgd : o.guard = none) (m x : Operand) (t k : TypeId) (ho : o.op = Op.call { callee := Callee.builtin Builtin.delete, args := #[m, x], argTypes := #[t, k] }) (vm vx : Value) (hm : a.eval m = vm) (hx : a.eval x = vx) (w' : World)
    (hr : (Builtin.delete_ #[t, k] o.type #[vm, vx]).run P w = .ok (.tuple #[]) w') (h : wpList P ops Q rest (a.put o.dst (.tuple #[])) w') : wpList P ops Q (o :: rest) a w :=
  wpList_plain hgd fun _ hK => by
    unfold Oper.wp
    simp [execOp, ho, resolve, invoke, builtin, hm, hx, hr, Result.andThen]
    exact hK _ _ h
theorem wpList_len_run (hgd : o.guard = none) (m : Operand) (t : TypeId) (ho : o.op = Op.call { callee := Callee.builtin Builtin.len, args := #[m], argTypes := #[t] }) (vm : Value) (hm : a.eval m = vm) (v' : Value)
    (hr : (Builtin.len_ #[t] o.type #[vm]).run P w = .ok v' w) (h : wpList P ops Q rest (a.put o.dst v') w) : wpList P ops Q (o :: rest) a w :=
  wpList_plain hgd fun _ hK => by
    unfold Oper.wp
    simp [execOp, ho, resolve, invoke, builtin, hm, hr, Result.andThen]
    exact hK _ _ h
end
end Go.Proofs.Ytgkdabllaankcaa
/- An order of the program in memory, inside the block of an end of a session: its fields, the map of what is kept, the row of what is ready; New, Next, Gap, Clear. No condition. -/
namespace Go.Proofs.Ytgkdabllaankcaa
open Go.RowKit
set_option linter.unusedVariables false

/-- the values V lead to the messages l, number by number, in F -/
def Kp (w : World) (F : Nat → Prop) : List (Int × Value) → List (Int × List UInt8) → Prop
  | [], [] => True
  | p :: V, q :: l => p.1 = q.1 ∧ Pc w F p.2 q.2 ∧ Kp w F V l
  | _, _ => False
section
variable {w w' : World} {F G : Nat → Prop} {V : List (Int × Value)} {l : List (Int × List UInt8)} {n : Int} {v : Value} {x : List UInt8}
theorem Kp.len : ∀ {V : List (Int × Value)} {l : List (Int × List UInt8)}, Kp w F V l → V.length = l.length
  | [], [], _ => rfl
  | _ :: _, _ :: _, h => by simp [Kp.len h.2.2]
  | [], _ :: _, h => h.elim
  | _ :: _, [], h => h.elim
theorem Kp.only {H : Nat → Prop} (o : Only G w w') (hG : ∀ k, F k → (∃ cur, w.heap[k]? = some (.cells cur 5 (0, 0))) → ¬ G k) (hH : ∀ k, F k → H k) : ∀ {V : List (Int × Value)} {l : List (Int × List UInt8)}, Kp w F V l → Kp w' H V l
  | [], [], _ => trivial
  | _ :: _, _ :: _, h => ⟨h.1, h.2.1.only o hG hH, Kp.only o hG hH h.2.2⟩
  | [], _ :: _, h => h.elim
  | _ :: _, [], h => h.elim
theorem Kp.app : ∀ {V : List (Int × Value)} {l : List (Int × List UInt8)}, Kp w F V l → Pc w F v x → Kp w F (V ++ [(n, v)]) (l ++ [(n, x)])
  | [], [], _, h' => ⟨rfl, h', trivial⟩
  | _ :: _, _ :: _, h, h' => ⟨h.1, h.2.1, Kp.app h.2.2 h'⟩
  | [], _ :: _, h, _ => h.elim
  | _ :: _, [], h, _ => h.elim
theorem Kp.dl : ∀ {V : List (Int × Value)} {l : List (Int × List UInt8)}, Kp w F V l → Kp w F (dl V n) (dl l n)
  | [], [], _ => trivial
  | p :: V, q :: l, h => by
    obtain ⟨h1, h2, h3⟩ := h
    unfold Proofs.Ytgkdabllaankcaa.dl
    rw [h1]
    split
    · exact h3
    · exact ⟨h1, h2, Kp.dl h3⟩
  | [], _ :: _, h => h.elim
  | _ :: _, [], h => h.elim
theorem Kp.lk_none : ∀ {V : List (Int × Value)} {l : List (Int × List UInt8)}, Kp w F V l → lk l n = none → lk V n = none
  | [], [], _, _ => rfl
  | p :: V, q :: l, h, hn => by
    unfold lk at hn ⊢
    rw [h.1]
    split
    · next e => rw [if_pos e] at hn; cases hn
    · next e => rw [if_neg e] at hn; exact Kp.lk_none h.2.2 hn
  | [], _ :: _, h, _ => h.elim
  | _ :: _, [], h, _ => h.elim
theorem Kp.lk_some : ∀ {V : List (Int × Value)} {l : List (Int × List UInt8)}, Kp w F V l → lk l n = some x → ∃ v, lk V n = some v ∧ Pc w F v x
  | [], [], _, h => by cases h
  | p :: V, q :: l, h, hn => by
    unfold lk at hn ⊢
    rw [h.1]
    split
    · next e =>
      rw [if_pos e] at hn
      injection hn with hn
      exact ⟨p.2, rfl, hn ▸ h.2.1⟩
    · next e => rw [if_neg e] at hn; exact Kp.lk_some h.2.2 hn
  | [], _ :: _, h, _ => h.elim
  | _ :: _, [], h, _ => h.elim
theorem Kp.ds : ∀ {V : List (Int × Value)} {l : List (Int × List UInt8)}, Kp w F V l → Ds l → Ds V
  | [], [], _, _ => trivial
  | p :: V, q :: l, h, hd => ⟨by rw [h.1]; exact Kp.lk_none h.2.2 hd.1, Kp.ds h.2.2 hd.2⟩
  | [], _ :: _, h, _ => h.elim
  | _ :: _, [], h, _ => h.elim
end

/-- what stands around the order in the block: twelve cells and eight -/
structure Ro where
  (p0 p1 p2 p3 p4 p5 p6 p7 p8 p9 p10 p11 q0 q1 q2 q3 q4 q5 q6 q7 : Value)
/-- the cells of an end of a session, seen from its order -/
def aoc (R : Ro) (m W e B : Nat) (A : Option Addr) (n c : Nat) : Array Value := #[R.p0, R.p1, R.p2, R.p3, R.p4, R.p5, R.p6, R.p7, R.p8, R.p9, R.p10, R.p11, .int .i64 (m : Int), .int .i64 (W : Int), .int .i64 (e : Int), .map (some B), .slice A n c, R.q0, R.q1, R.q2, R.q3, R.q4, R.q5, R.q6, R.q7]
/-- The block b holds an order with these fields; it, its map, its row and its messages lie in F. -/
def AoRaw (w : World) (F : Nat → Prop) (b : Nat) (R : Ro) (m W e : Nat) (l : List (Int × List UInt8)) (r : List (List UInt8)) : Prop :=
  ∃ B V A c vs, w.heap[b]? = some (.cells (aoc R m W e B A r.length c) 65 (0, 0)) ∧ (MpR w B V ∧ Kp w F V l) ∧ (MidV 39 w A c vs ∧ Pcs w F vs r) ∧
    F b ∧ F B ∧ (∀ k, blk A = some k → F k) ∧ ∀ k, F k → k < w.heap.size
/-- The block b holds an order in the state s. -/
def AoP (w : World) (F : Nat → Prop) (b : Nat) (R : Ro) (s : Od) : Prop := AoRaw w F b R s.m s.W s.e s.k s.r ∧ s.Ok
/-- The order has come into the state s; nothing but it has turned. -/
def AoTurn (F : Nat → Prop) (b : Nat) (R : Ro) (s : Od) (w w' : World) : Prop := AoP w' (more F w w') b R s ∧ Only F w w'
section
variable {w w' : World} {F G : Nat → Prop} {b m W e B : Nat} {R : Ro} {l : List (Int × List UInt8)} {r : List (List UInt8)} {s : Od} {A : Option Addr} {n c : Nat} {V : List (Int × Value)} {vs : List Value}
theorem aocell (h : w.heap[b]? = some (.cells (aoc R m W e B A n c) 65 (0, 0))) :
    w.cell? ⟨b, 12, none⟩ = some (.int .i64 (m : Int)) ∧ w.cell? ⟨b, 13, none⟩ = some (.int .i64 (W : Int)) ∧ w.cell? ⟨b, 14, none⟩ = some (.int .i64 (e : Int)) ∧ w.cell? ⟨b, 15, none⟩ = some (.map (some B)) ∧ w.cell? ⟨b, 16, none⟩ = some (.slice A n c) := by
  refine ⟨?_, ?_, ?_, ?_, ?_⟩ <;> rw [cell_of_row w b _ _ _ (0, 0) h] <;> rfl
theorem AoRaw.lt (h : AoRaw w F b R m W e l r) : ∀ k, F k → k < w.heap.size := by obtain ⟨_, _, _, _, _, _, _, _, _, _, _, h⟩ := h; exact h
theorem AoRaw.only (h : AoRaw w F b R m W e l r) (on : Only G w w') (hd : ∀ k, F k → ¬ G k) : AoRaw w' F b R m W e l r := by
  obtain ⟨B, V, A, c, vs, h1, ⟨h2, h3⟩, ⟨h4, h5⟩, h6, h7, h8, h9⟩ := h
  exact ⟨B, V, A, c, vs, (on.block b (h9 b h6) (hd b h6)).trans h1, ⟨h2.only on (hd B h7), Kp.only on (fun k hk _ => hd k hk) (fun _ h => h) h3⟩, ⟨h4.only on (fun k hk => hd k (h8 k hk)), Pcs.only on (fun k hk _ => hd k hk) (fun _ h => h) h5⟩, h6, h7, h8, fun k hk => Nat.lt_of_lt_of_le (h9 k hk) on.size⟩
theorem AoRaw.drewN (h : AoRaw w F b R m W e l r) (n : Nat) : AoRaw (w.drewN n) F b R m W e l r :=
  h.only (G := fun _ => False) ⟨rfl, rfl, rfl, Nat.le_refl _, fun _ _ _ => rfl⟩ (fun _ _ h => h)
/-- the same in a greater set -/
theorem AoRaw.into (h : AoRaw w F b R m W e l r) (hG : ∀ k, F k → G k) (hlt : ∀ k, G k → k < w.heap.size) : AoRaw w G b R m W e l r := by
  obtain ⟨B, V, A, c, vs, h1, ⟨h2, h3⟩, ⟨h4, h5⟩, h6, h7, h8, h9⟩ := h
  exact ⟨B, V, A, c, vs, h1, ⟨h2, Kp.only (G := fun _ => False) (Only.refl _ _) (fun _ _ _ h => h) hG h3⟩, ⟨h4, Pcs.only (G := fun _ => False) (Only.refl _ _) (fun _ _ _ h => h) hG h5⟩, hG b h6, hG B h7, fun k hk => hG k (h8 k hk), hlt⟩
theorem AoRaw.more (h : AoRaw w' F b R m W e l r) (hlt : ∀ k, F k → k < w.heap.size) (hs : w.heap.size ≤ w'.heap.size) : AoRaw w' (more F w w') b R m W e l r := h.into (fun _ h => .inl h) (more_lt hlt hs)
theorem AoP.ok (h : AoP w F b R s) : s.Ok := h.2
theorem AoP.lt (h : AoP w F b R s) : ∀ k, F k → k < w.heap.size := h.1.lt
theorem AoP.only (h : AoP w F b R s) (on : Only G w w') (hd : ∀ k, F k → ¬ G k) : AoP w' F b R s := ⟨h.1.only on hd, h.2⟩
theorem AoP.drewN (h : AoP w F b R s) (n : Nat) : AoP (w.drewN n) F b R s := ⟨h.1.drewN n, h.2⟩
theorem AoTurn.of_same (h : AoP w' F b R s) (on : Only F w w') (hlt : ∀ k, F k → k < w.heap.size) : AoTurn F b R s w w' := ⟨⟨h.1.more hlt on.size, h.2⟩, on⟩
theorem AoTurn.refl (h : AoP w F b R s) : AoTurn F b R s w w := .of_same h (Only.refl _ _) h.lt
theorem AoTurn.from_drewN {n : Nat} (h : AoTurn F b R s (w.drewN n) w') : AoTurn F b R s w w' := ⟨h.1, ⟨h.2.os, h.2.tape, h.2.output, h.2.size, h.2.block⟩⟩
theorem AoTurn.drewN (h : AoTurn F b R s w w') (n : Nat) : AoTurn F b R s w (w'.drewN n) := ⟨⟨h.1.1.drewN n, h.1.2⟩, ⟨h.2.os, h.2.tape, h.2.output, h.2.size, h.2.block⟩⟩
/-- two turns, one behind the other -/
theorem AoTurn.trans {w1 w2 : World} {s1 s2 : Od} (hlt : ∀ k, F k → k < w.heap.size) (h : AoTurn F b R s1 w w1) (h' : AoTurn (more F w w1) b R s2 w1 w2) : AoTurn F b R s2 w w2 := by
  have on : Only F w w2 := h.2.trans h'.2 (fun k hk hm => hm.elim id (fun h => by omega))
  have s1 := h.2.size
  have s2 := h'.2.size
  refine ⟨⟨h'.1.1.into (fun k hk => ?_) (more_lt hlt on.size), h'.1.2⟩, on⟩
  rcases hk with (hk | ⟨h1, h2⟩) | ⟨h1, h2⟩
  · exact .inl hk
  · exact .inr ⟨h1, Nat.lt_of_lt_of_le h2 s2⟩
  · exact .inr ⟨Nat.le_trans s1 h1, h2⟩
/-- blocks of other types are other blocks -/
theorem ao_off (hb : w.heap[b]? = some (.cells (aoc R m W e B A n c) 65 (0, 0))) {T : TypeId} (hT : T ≠ 65) : ∀ k, F k → (∃ cur, w.heap[k]? = some (.cells cur T (0, 0))) → ¬ k = b := fun k _ h e => by
  obtain ⟨cur, h⟩ := h
  rw [e] at h
  exact types_apart hT h hb
theorem pcs_off_rows (hB : MidV 39 w A c vs) : ∀ k, F k → (∃ cur, w.heap[k]? = some (.cells cur 5 (0, 0))) → ¬ blk A = some k := fun k _ h e => by
  obtain ⟨cur, h⟩ := h
  obtain ⟨cur', h'⟩ := hB.type k e
  exact types_apart (by decide) h h'
theorem cells_off_map (hM : MpR w B V) {T : TypeId} : ∀ k, (∃ cur, w.heap[k]? = some (.cells cur T (0, 0))) → ¬ k = B := fun k h e => by
  obtain ⟨cur, h⟩ := h
  rw [e] at h
  exact hM.notCells h
/-- one field has turned; the map and the row are what they are -/
theorem ao_set {m' W' e' B' : Nat} {A' : Option Addr} {n' c' : Nat} (hb : w.heap[b]? = some (.cells (aoc R m' W' e' B' A' n' c') 65 (0, 0))) (j : Nat) (u : Value)
    (hC : (aoc R m' W' e' B' A' n' c').setIfInBounds (12 + j) u = aoc R m W e B A r.length c)
    (hM : MpR w B V) (hK : Kp w F V l) (hA : MidV 39 w A c vs) (hP : Pcs w F vs r)
    (hF : F b) (hFB : F B) (hFA : ∀ k, blk A = some k → F k) (hlt : ∀ k, F k → k < w.heap.size) :
    w.frozen? ⟨b, 12 + j, none⟩ = false ∧ AoRaw (w.setCell ⟨b, 12 + j, none⟩ u) F b R m W e l r ∧ Only F w (w.setCell ⟨b, 12 + j, none⟩ u) := by
  have on := only_set w ⟨b, 12 + j, none⟩ u
  refine ⟨frozen_of_row w b (12 + j) _ _ hb, ⟨B, V, A, c, vs, ?_, ⟨hM.only on (fun e => ?_), Kp.only on (ao_off hb (by decide)) (fun _ h => h) hK⟩, ⟨hA.only on (fun k hk => ?_), Pcs.only on (ao_off hb (by decide)) (fun _ h => h) hP⟩, hF, hFB, hFA, fun k hk => Nat.lt_of_lt_of_le (hlt k hk) on.size⟩, on.mono (fun k _ e => by rw [e]; exact hF)⟩
  · rw [← hC]
    exact heap_setCell_same w b (12 + j) _ _ _ hb
  · exact hM.notCells (show w.heap[B]? = _ from by rw [show B = b from e]; exact hb)
  · exact ao_off (F := F) hb (by decide) k (hFA k hk) (hA.type k hk)
end
section
variable {w : World} {F : Nat → Prop} {b : Nat} {R : Ro} {s : Od}
theorem aoNext_calls (h : AoP w F b R s) : Calls Try.prog 55 #[.pointer (some ⟨b, 12, none⟩)] w fun e w' => e = .returned (.int .i64 (s.e : Int)) ∧ w' = w := by
  obtain ⟨⟨B, V, A, c, vs, hb, _⟩, _⟩ := h
  obtain ⟨c0, c1, c2, c3, c4⟩ := aocell hb
  clear hb c0 c1 c3 c4
  generalize s.e = m at *
  go_enter Try.func55, Try.ntmps55
  go_wp2
  go_ret
  exact ⟨rfl, rfl⟩
theorem aoGap_calls (h : AoP w F b R s) : Calls Try.prog 84 #[.pointer (some ⟨b, 12, none⟩)] w fun e w' => e = .returned (.bool s.gap) ∧ w' = w := by
  obtain ⟨⟨B, V, A, c, vs, hb, ⟨hM, hK⟩, _⟩, _⟩ := h
  obtain ⟨c0, c1, c2, c3, c4⟩ := aocell hb
  have LE := hM.len
  rw [hK.len] at LE
  have hg : s.gap = decide ((0 : Int) < (s.k.length : Int)) := by
    unfold Od.gap
    cases s.k with
    | nil => rfl
    | cons p l => simp
  rw [hg]
  clear hb c0 c1 c2 c4 hM hK hg
  generalize s.k.length = m at *
  go_enter Try.func84, Try.ntmps84
  go_wp2_with (at_len; refine wpList_len_run _ rfl _ _ rfl _ rfl _ (LE _) ?_)
  go_ret
  exact ⟨by simp, rfl⟩
set_option maxRecDepth 20000 in
theorem aoClear_calls (h : AoP w F b R s) : Calls Try.prog 54 #[.pointer (some ⟨b, 12, none⟩)] w fun e w' => e = .returned (.tuple #[]) ∧ AoP w' F b R s.clear ∧ Only F w w' := by
  have okC := h.2.clear
  obtain ⟨⟨B, V, A, c, vs, hb, ⟨hM, hK⟩, ⟨hA, hP⟩, h6, h7, h8, h9⟩, ok⟩ := h
  obtain ⟨c0, c1, c2, c3, c4⟩ := aocell hb
  obtain ⟨w1, CR, hM1, on1⟩ := hM.clear
  have hbB : ¬ b = B := fun e => hM.notCells (e ▸ hb)
  have hb1 := (on1.block b (lt_of_block hb) hbB).trans hb
  obtain ⟨z2, raw, on2⟩ := ao_set (F := F) (m := s.m) (W := s.W) (e := 0) (l := []) (r := s.r) hb1 2 (.int .i64 ((0 : Nat) : Int)) rfl hM1 trivial (hA.only on1 (fun k hk => cells_off_map hM k (hA.type k hk))) (Pcs.only on1 (fun k _ hk => cells_off_map hM k hk) (fun _ h => h) hP) h6 h7 h8 (fun k hk => Nat.lt_of_lt_of_le (h9 k hk) on1.size)
  have FI := Lib.hid (show AoP (w1.setCell ⟨b, 14, none⟩ (.int .i64 0)) F b R s.clear ∧ Only F w (w1.setCell ⟨b, 14, none⟩ (.int .i64 0)) from ⟨⟨raw, okC⟩, (on1.mono (fun k _ e => by rw [e]; exact h7)).trans on2 (fun _ _ h => h)⟩)
  obtain ⟨k0, k1, k2, k3, k4⟩ := aocell hb1
  clear hb hM hK hA hP h6 h7 h8 h9 ok okC hM1 on1 hb1 raw on2 c0 c1 c2 c4 k0 k1 k3 k4
  generalize s.e = x at *
  go_enter Try.func54, Try.ntmps54
  go_wp2_with (first | (refine wpList_clear_run _ rfl _ _ rfl _ rfl _ _ (CR _) ?_) | go_in)
  go_end0
  exact ⟨rfl, FI.out⟩
end
end Go.Proofs.Ytgkdabllaankcaa

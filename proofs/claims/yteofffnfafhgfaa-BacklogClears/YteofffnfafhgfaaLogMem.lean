/- A log of the program in memory: its fields and its messages; New, Len, Clear, sent, before. No condition. -/
import Derived.Test.YteofffnfafhgfaaPcRow
import Derived.Test.YteofffnfafhgfaaObjMem
import Derived.Test.YteofffnfafhgfaaCloneOwn
import Derived.Test.YteofffnfafhgfaaSerNum
import Derived.Test.YteofffnfafhgfaaLogPlain
import Derived.Test.YteofffnfafhgfaaStepApp
import Derived.BigQuiet
namespace Go.Proofs.Yteofffnfafhgfaa
open Go.RowKit
set_option linter.unusedVariables false

/-- the cells of a log -/
def lgc (m W Q f x : Nat) (A : Option Addr) (k c : Nat) : Array Value := #[.int .i64 (m : Int), .int .i64 (W : Int), .int .i64 (Q : Int), .int .i64 (f : Int), .int .i64 (x : Int), .slice A k c]
/-- The block b holds a log with these fields; it, its row and its messages lie in F. -/
def LgRaw (w : World) (F : Nat → Prop) (b m W Q f x : Nat) (l : List (List UInt8)) : Prop :=
  ∃ A c vs, w.heap[b]? = some (.cells (lgc m W Q f x A l.length c) 53 (0, 0)) ∧ MidV 28 w A c vs ∧ Pcs w F vs l ∧ F b ∧ (∀ k, blk A = some k → F k) ∧ ∀ k, F k → k < w.heap.size
/-- The block b holds a log in the state s. -/
def LgP (w : World) (F : Nat → Prop) (b : Nat) (s : Lg) : Prop := LgRaw w F b s.m s.W s.Q s.f s.nx s.l ∧ s.Ok
/-- The log has come into the state s; nothing but it has turned. -/
def LgTurn (F : Nat → Prop) (b : Nat) (s : Lg) (w w' : World) : Prop := LgP w' (more F w w') b s ∧ Only F w w'
section
variable {w w' : World} {F G : Nat → Prop} {b m W Q f x : Nat} {l : List (List UInt8)} {s : Lg} {A : Option Addr} {k c : Nat}
theorem lgcell (h : w.heap[b]? = some (.cells (lgc m W Q f x A k c) 53 (0, 0))) :
    w.cell? ⟨b, 0, none⟩ = some (.int .i64 (m : Int)) ∧ w.cell? ⟨b, 1, none⟩ = some (.int .i64 (W : Int)) ∧ w.cell? ⟨b, 2, none⟩ = some (.int .i64 (Q : Int)) ∧ w.cell? ⟨b, 3, none⟩ = some (.int .i64 (f : Int)) ∧ w.cell? ⟨b, 4, none⟩ = some (.int .i64 (x : Int)) ∧ w.cell? ⟨b, 5, none⟩ = some (.slice A k c) := by
  refine ⟨?_, ?_, ?_, ?_, ?_, ?_⟩ <;> rw [cell_of_row w b _ _ _ (0, 0) h] <;> rfl
theorem LgRaw.lt (h : LgRaw w F b m W Q f x l) : ∀ k, F k → k < w.heap.size := by obtain ⟨_, _, _, _, _, _, _, _, h⟩ := h; exact h
theorem LgRaw.only (h : LgRaw w F b m W Q f x l) (on : Only G w w') (hd : ∀ k, F k → ¬ G k) : LgRaw w' F b m W Q f x l := by
  obtain ⟨A, c, vs, h1, h2, h3, h4, h5, h6⟩ := h
  exact ⟨A, c, vs, (on.block b (h6 b h4) (hd b h4)).trans h1, h2.only on (fun k hk => hd k (h5 k hk)), Pcs.only on (fun k hk _ => hd k hk) (fun _ h => h) h3, h4, h5, fun k hk => Nat.lt_of_lt_of_le (h6 k hk) on.size⟩
theorem LgRaw.drewN (h : LgRaw w F b m W Q f x l) (n : Nat) : LgRaw (w.drewN n) F b m W Q f x l :=
  h.only (G := fun _ => False) ⟨rfl, rfl, rfl, Nat.le_refl _, fun _ _ _ => rfl⟩ (fun _ _ h => h)
theorem LgRaw.more (h : LgRaw w' F b m W Q f x l) (hlt : ∀ k, F k → k < w.heap.size) (hs : w.heap.size ≤ w'.heap.size) : LgRaw w' (more F w w') b m W Q f x l := by
  obtain ⟨A, c, vs, h1, h2, h3, h4, h5, h6⟩ := h
  exact ⟨A, c, vs, h1, h2, Pcs.only (G := fun _ => False) (Only.refl _ _) (fun _ _ _ h => h) (fun _ h => .inl h) h3, .inl h4, fun k hk => .inl (h5 k hk), more_lt hlt hs⟩
theorem LgP.ok (h : LgP w F b s) : s.Ok := h.2
theorem LgP.lt (h : LgP w F b s) : ∀ k, F k → k < w.heap.size := h.1.lt
theorem LgP.only (h : LgP w F b s) (on : Only G w w') (hd : ∀ k, F k → ¬ G k) : LgP w' F b s := ⟨h.1.only on hd, h.2⟩
theorem LgP.drewN (h : LgP w F b s) (n : Nat) : LgP (w.drewN n) F b s := ⟨h.1.drewN n, h.2⟩
theorem LgTurn.of_same (h : LgP w' F b s) (on : Only F w w') (hlt : ∀ k, F k → k < w.heap.size) : LgTurn F b s w w' := ⟨⟨h.1.more hlt on.size, h.2⟩, on⟩
theorem LgTurn.refl (h : LgP w F b s) : LgTurn F b s w w := .of_same h (Only.refl _ _) h.lt
theorem LgTurn.from_drewN {n : Nat} (h : LgTurn F b s (w.drewN n) w') : LgTurn F b s w w' := ⟨h.1, ⟨h.2.os, h.2.tape, h.2.output, h.2.size, h.2.block⟩⟩
theorem LgTurn.drewN (h : LgTurn F b s w w') (n : Nat) : LgTurn F b s w (w'.drewN n) := ⟨⟨h.1.1.drewN n, h.1.2⟩, ⟨h.2.os, h.2.tape, h.2.output, h.2.size, h.2.block⟩⟩
/-- its row and its messages do not lie in its own block -/
theorem lgrow_apart (hb : w.heap[b]? = some (.cells (lgc m W Q f x A k c) 53 (0, 0))) {A' : Option Addr} {c' : Nat} {vs : List Value} (hA : MidV 28 w A' c' vs) : blk A' ≠ some b := fun e => by
  obtain ⟨cur, h⟩ := hA.type b e
  exact types_apart (by decide) h hb
theorem lgpcs_apart (hb : w.heap[b]? = some (.cells (lgc m W Q f x A k c) 53 (0, 0))) : ∀ k, F k → (∃ cur, w.heap[k]? = some (.cells cur 5 (0, 0))) → ¬ k = b := fun k _ h e => by
  obtain ⟨cur, h⟩ := h
  rw [e] at h
  exact types_apart (by decide) h hb
theorem pcs_off_row {vs : List Value} (hA : MidV 28 w A c vs) : ∀ k, F k → (∃ cur, w.heap[k]? = some (.cells cur 5 (0, 0))) → ¬ blk A = some k := fun k _ h e => by
  obtain ⟨cur, h⟩ := h
  obtain ⟨cur', h'⟩ := hA.type k e
  exact types_apart (by decide) h h'
/-- the first number has turned -/
theorem LgRaw.setF (h : LgRaw w F b m W Q f x l) (f' : Nat) : w.frozen? ⟨b, 3, none⟩ = false ∧ LgRaw (w.setCell ⟨b, 3, none⟩ (.int .i64 (f' : Int))) F b m W Q f' x l ∧ Only F w (w.setCell ⟨b, 3, none⟩ (.int .i64 (f' : Int))) := by
  obtain ⟨A, c, vs, h1, h2, h3, h4, h5, h6⟩ := h
  have on := only_set w ⟨b, 3, none⟩ (.int .i64 (f' : Int))
  exact ⟨frozen_of_row w b 3 _ _ h1, ⟨A, c, vs, heap_setCell_same w b 3 _ _ _ h1, h2.only on (fun k hk e => lgrow_apart h1 h2 (by rw [hk, e])), Pcs.only on (lgpcs_apart h1) (fun _ h => h) h3, h4, h5, fun k hk => Nat.lt_of_lt_of_le (h6 k hk) on.size⟩, on.mono (fun k _ e => by rw [e]; exact h4)⟩
/-- the next number has turned -/
theorem LgRaw.setX (h : LgRaw w F b m W Q f x l) (x' : Nat) : w.frozen? ⟨b, 4, none⟩ = false ∧ LgRaw (w.setCell ⟨b, 4, none⟩ (.int .i64 (x' : Int))) F b m W Q f x' l ∧ Only F w (w.setCell ⟨b, 4, none⟩ (.int .i64 (x' : Int))) := by
  obtain ⟨A, c, vs, h1, h2, h3, h4, h5, h6⟩ := h
  have on := only_set w ⟨b, 4, none⟩ (.int .i64 (x' : Int))
  exact ⟨frozen_of_row w b 4 _ _ h1, ⟨A, c, vs, heap_setCell_same w b 4 _ _ _ h1, h2.only on (fun k hk e => lgrow_apart h1 h2 (by rw [hk, e])), Pcs.only on (lgpcs_apart h1) (fun _ h => h) h3, h4, h5, fun k hk => Nat.lt_of_lt_of_le (h6 k hk) on.size⟩, on.mono (fun k _ e => by rw [e]; exact h4)⟩
/-- the row has become another one -/
theorem lgraw_setL {l' : List (List UInt8)} {A' : Option Addr} {c' : Nat} {vs' : List Value} (h1 : w.heap[b]? = some (.cells (lgc m W Q f x A k c) 53 (0, 0))) (h4 : F b) (hlt : ∀ k, F k → k < w.heap.size)
    (hA : MidV 28 w A' c' vs') (hF : ∀ k, blk A' = some k → F k) (hP : Pcs w F vs' l') : w.frozen? ⟨b, 5, none⟩ = false ∧ LgRaw (w.setCell ⟨b, 5, none⟩ (.slice A' l'.length c')) F b m W Q f x l' ∧ Only F w (w.setCell ⟨b, 5, none⟩ (.slice A' l'.length c')) := by
  have on := only_set w ⟨b, 5, none⟩ (.slice A' l'.length c')
  exact ⟨frozen_of_row w b 5 _ _ h1, ⟨A', c', vs', heap_setCell_same w b 5 _ _ _ h1, hA.only on (fun k hk e => lgrow_apart h1 hA (by rw [hk, e])), Pcs.only on (lgpcs_apart h1) (fun _ h => h) hP, h4, hF, fun k hk => Nat.lt_of_lt_of_le (hlt k hk) on.size⟩, on.mono (fun k _ e => by rw [e]; exact h4)⟩
theorem LgP.fresh (w : World) (m W Q : Int) : LgP (w.alloc (.cells (lgc (Lg.new m W Q).m (Lg.new m W Q).W (Lg.new m W Q).Q 0 0 none 0 0) 53)) (fun k => k = w.heap.size) w.heap.size (Lg.new m W Q) := by
  refine ⟨⟨none, 0, [], ?_, MidV.nil _ _, trivial, rfl, fun k hk => by simp [blk] at hk, fun k hk => by simp; omega⟩, Lg.new_ok m W Q⟩
  rw [Lg.new_nx]
  exact heap_alloc_new w _
end
theorem lgLimit_calls (n a c : Int) (w : World) (ha : a ≤ c) : Calls Try.prog 27 #[.int .i64 n, .int .i64 a, .int .i64 c] w fun e w' => e = .returned (.int .i64 (min (max n a) c)) ∧ w' = w := by
  go_enter Try.func27, Try.ntmps27
  go_wp2
  all_goals
    go_ret
    exact ⟨ret_int (by omega), rfl⟩
theorem lgNew_calls (m W Q : Int) (w : World) : Calls Try.prog 8 #[.int .i64 m, .int .i64 W, .int .i64 Q] w fun e w' => e = .returned (.pointer (some ⟨w.heap.size, 0, none⟩)) ∧ w.alloc (.cells (lgc (Lg.new m W Q).m (Lg.new m W Q).W (Lg.new m W Q).Q 0 0 none 0 0) 53) = w' := by
  have ok := Lg.new_ok m W Q
  have L1 := fun v => lgLimit_calls m 8 32768 v (by decide)
  have L2 := fun v => lgLimit_calls W 1 (((Lg.new m W Q).m : Int) / 8) v (by have := ok.w1; have := ok.w8; omega)
  have L3 := fun v => lgLimit_calls Q 0 1000 v (by decide)
  rw [Lg.new_m m W Q] at L1
  rw [Lg.new_W] at L2
  rw [Lg.new_Q m W Q] at L3
  have b1 := ok.m8
  have b2 := ok.m9
  clear ok
  generalize Lg.new m W Q = s at *
  have hq : wrap64 ((s.m : Int) / 8) = (s.m : Int) / 8 := by unfold wrap64; omega
  unfold lgc
  go_enter Try.func8, Try.ntmps8
  go_wp2_with fail
  refine (L1 _).mono ?_
  rintro e w' ⟨rfl, rfl⟩
  go_wp2_with fail
  refine (L2 _).mono ?_
  rintro e w' ⟨rfl, rfl⟩
  go_wp2_with fail
  refine (L3 _).mono ?_
  rintro e w' ⟨rfl, rfl⟩
  go_wp2
  go_ret
  exact ⟨rfl, rfl⟩
section
variable {w : World} {F : Nat → Prop} {b m W Q f x : Nat} {l : List (List UInt8)} {s : Lg}
theorem lgLen_calls (h : LgP w F b s) : Calls Try.prog 24 #[.pointer (some ⟨b, 0, none⟩)] w fun e w' => e = .returned (.int .i64 (s.l.length : Int)) ∧ w' = w := by
  obtain ⟨⟨A, c, vs, hb, _⟩, _⟩ := h
  obtain ⟨c0, c1, c2, c3, c4, c5⟩ := lgcell hb
  clear hb c0 c1 c2 c3 c4
  generalize s.l.length = m at *
  go_enter Try.func24, Try.ntmps24
  go_wp2
  go_ret
  exact ⟨rfl, rfl⟩
theorem lgDist_calls (a k M : Nat) (w : World) (h1 : a ≤ 32768) (h2 : k ≤ 32768) (h3 : 1 ≤ M) (h4 : M ≤ 32768) (d : Nat) (hd : ((k : Int) - (a : Int)) % (M : Int) = (d : Int)) :
    Calls Try.prog 35 #[.int .i64 (a : Int), .int .i64 (k : Int), .int .i64 (M : Int)] w fun e w' => e = .returned (.int .i64 (d : Int)) ∧ w' = w := by
  refine (serDist_calls a k M w (by unfold I64; omega) (by unfold I64; omega) (by unfold I64; omega)).mono ?_
  rintro e w' ⟨rfl, rfl⟩
  unfold sdst
  rw [slim_mid (by omega) (by omega), hd]
  exact ⟨rfl, rfl⟩
theorem lgNext_calls (k M : Nat) (w : World) (h2 : k < M) (h3 : 1 ≤ M) (h4 : M ≤ 32768) :
    Calls Try.prog 32 #[.int .i64 (k : Int), .int .i64 (M : Int)] w fun e w' => e = .returned (.int .i64 (((k + 1) % M : Nat) : Int)) ∧ w' = w := by
  refine (serNext_calls k M w (by unfold I64; omega) (by unfold I64; omega)).mono ?_
  rintro e w' ⟨rfl, rfl⟩
  unfold snxt
  rw [slim_mid (by omega) (by omega)]
  refine ⟨ret_int ?_, rfl⟩
  rw [Int.emod_eq_of_lt (a := (k : Int)) (by omega) (by omega), Int.natCast_emod]
  rfl
theorem lgSent_calls (h : LgP w F b s) : Calls Try.prog 30 #[.pointer (some ⟨b, 0, none⟩)] w fun e w' => e = .returned (.int .i64 (s.n : Int)) ∧ ∃ q, w' = w.drewN q := by
  have ok := h.2
  have D := fun v => lgDist_calls s.f s.nx s.m v (by have := ok.f9; have := ok.m9; omega) (by have := Lg.nx_lt ok; have := ok.m9; omega) (by have := ok.m8; omega) ok.m9 s.n (Lg.sent_int ok)
  obtain ⟨⟨A, c, vs, hb, _⟩, _⟩ := h
  obtain ⟨c0, c1, c2, c3, c4, c5⟩ := lgcell hb
  clear hb c1 c2 c5 ok
  generalize s.f = f at *
  generalize s.m = m at *
  generalize s.n = n at *
  generalize s.nx = x at *
  go_enter Try.func30, Try.ntmps30
  go_wp2_with fail
  go_quiet (first | (go_at_call 35; exact Calls.quiet_of_same (D _)))
  go_wp2
  go_ret
  exact ⟨rfl, _, rfl⟩
theorem lgBefore_calls (h : LgP w F b s) (k : Int) (hk : I64 k) : Calls Try.prog 33 #[.pointer (some ⟨b, 0, none⟩), .int .i64 k] w fun e w' => e = .returned (.tuple #[.int .i64 ((if s.isN k then s.ds k.toNat else 0 : Nat) : Int), .bool (s.isN k)]) ∧ ∃ q, w' = w.drewN q := by
  have ok := h.2
  obtain ⟨⟨A, c, vs, hb, _⟩, _⟩ := h
  obtain ⟨c0, c1, c2, c3, c4, c5⟩ := lgcell hb
  obtain ⟨k1, k2⟩ := hk
  clear hb c1 c2 c5 c4
  by_cases h0 : k < 0
  · rw [show s.isN k = false by unfold Lg.isN; simp; omega]
    clear ok c0 c3
    go_enter Try.func33, Try.ntmps33
    go_wp2
    go_ret2
    exact ⟨rfl, 0, rfl⟩
  · have h0' : (k < 0) = False := by simp; omega
    by_cases h1 : k < (s.m : Int)
    · obtain ⟨j, rfl⟩ : ∃ j : Nat, k = j := ⟨k.toNat, by omega⟩
      have hj : j < s.m := by omega
      rw [show s.isN (j : Int) = true by unfold Lg.isN; simp; omega]
      have D := fun v => lgDist_calls s.f j s.m v (by have := ok.f9; have := ok.m9; omega) (by have := ok.m9; omega) (by have := ok.m8; omega) ok.m9 (s.ds j) (Lg.dist_int ok hj)
      have g1 : ¬ (s.m : Int) ≤ (j : Int) := by omega
      rw [if_pos rfl, Int.toNat_natCast]
      clear ok h0 h0' h1 hj
      generalize s.ds j = d at *
      generalize s.f = f at *
      generalize s.m = m at *
      go_enter Try.func33, Try.ntmps33
      go_wp2_with fail
      go_quiet (first | (go_at_call 35; exact Calls.quiet_of_same (D _)))
      go_wp2
      go_ret2
      exact ⟨rfl, _, rfl⟩
    · rw [show s.isN k = false by unfold Lg.isN; simp; omega]
      have g1 : (s.m : Int) ≤ k := by omega
      clear ok c3 h1
      generalize s.m = m at *
      go_enter Try.func33, Try.ntmps33
      go_wp2
      go_ret2
      exact ⟨rfl, 0, rfl⟩
theorem lgClear_calls (h : LgP w F b s) : Calls Try.prog 19 #[.pointer (some ⟨b, 0, none⟩)] w fun e w' => e = .returned (.int .i64 (s.l.length : Int)) ∧ LgP w' F b s.clear ∧ Only F w w' := by
  have okC := h.2.clear
  have hnx := Lg.clear_nx s
  obtain ⟨⟨A, c, vs, h1, h2, h3, h4, h5, h6⟩, ok⟩ := h
  obtain ⟨c0, c1, c2, c3, c4, c5⟩ := lgcell h1
  obtain ⟨z1, raw1, on1⟩ := lgraw_setL (F := F) (l' := []) (vs' := []) (A' := none) (c' := 0) h1 h4 h6 (MidV.nil _ _) (fun k hk => by simp [blk] at hk) trivial
  obtain ⟨z2, raw2, on2⟩ := raw1.setF 0
  obtain ⟨z3, raw3, on3⟩ := raw2.setX 0
  have FI := Lib.hid (show LgP _ F b s.clear ∧ Only F w _ from ⟨⟨by rw [hnx]; exact raw3, okC⟩, (on1.trans on2 (fun _ _ h => h)).trans on3 (fun _ _ h => h)⟩)
  simp only [List.length_nil] at FI
  have y3 := frozen_of_row w b 3 _ _ h1
  have y4 := frozen_of_row w b 4 _ _ h1
  clear z2 z3
  clear h1 h2 h3 h4 h5 h6 ok raw1 raw2 raw3 on1 on2 on3 okC hnx c0 c1 c2
  generalize s.l.length = n at *
  generalize s.f = f at *
  generalize s.nx = x at *
  go_enter Try.func19, Try.ntmps19
  go_wp2
  go_ret
  exact ⟨rfl, FI.out⟩
end
end Go.Proofs.Yteofffnfafhgfaa

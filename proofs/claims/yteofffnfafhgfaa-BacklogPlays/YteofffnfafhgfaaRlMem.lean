/- A log of the reference in memory: its fields, the messages that are out, those that wait; NewLog, Len, Clear. No condition. -/
import Derived.Test.YteofffnfafhgfaaMsgRow
import Derived.Test.YteofffnfafhgfaaObjMem
import Derived.Test.YteofffnfafhgfaaCutR
import Derived.Test.YteofffnfafhgfaaLogPlain
import Derived.BigQuiet
namespace Go.Proofs.Yteofffnfafhgfaa
open Go.RowKit
set_option linter.unusedVariables false

namespace Lg
/-- the messages that are out, each with its number -/
def outM (s : Lg) : List (Int × List UInt8) := (List.range s.n).map fun i => ((((s.f + i) % s.m : Nat) : Int), s.l.getD i [])
/-- the messages that wait -/
def wait (s : Lg) : List (List UInt8) := s.l.drop s.n
theorem outM_len (s : Lg) : s.outM.length = s.n := by simp [outM]
theorem wait_len (s : Lg) : s.wait.length = s.l.length - s.n := by simp [wait]
theorem outM_get (s : Lg) {i : Nat} (h : i < s.n) : s.outM.getD i (0, []) = ((((s.f + i) % s.m : Nat) : Int), s.l.getD i []) := by
  unfold outM
  rw [List.getD_eq_getElem?_getD, List.getElem?_map, List.getElem?_range h]
  rfl
theorem add_wait {s : Lg} (h : s.n ≤ s.l.length) (hf : s.full = false) (x : List UInt8) : (s.add x).wait = s.wait ++ [x] ∧ (s.add x).outM = s.outM := by
  unfold Lg.add
  rw [hf]
  refine ⟨?_, ?_⟩
  · show (s.l ++ [x]).drop s.n = _
    rw [List.drop_append_of_le_length h]
    rfl
  · unfold outM
    refine List.map_congr_left fun i hi => ?_
    have hi' : i < s.n := List.mem_range.1 hi
    have : i < s.l.length := by omega
    show (_, (s.l ++ [x]).getD i []) = _
    rw [List.getD_eq_getElem?_getD, List.getD_eq_getElem?_getD, List.getElem?_append_left this]
    rfl
theorem next_wait {s : Lg} (hn : s.n < s.l.length) (hs : s.stop = false) : s.wait = s.l.getD s.n [] :: s.next.wait ∧ s.next.outM = s.outM ++ [((s.nx : Int), s.l.getD s.n [])] := by
  unfold Lg.next
  rw [hs]
  refine ⟨?_, ?_⟩
  · show s.l.drop s.n = _
    rw [List.drop_eq_getElem_cons hn, List.getD_eq_getElem?_getD, List.getElem?_eq_getElem hn]
    rfl
  · unfold outM
    show (List.range (s.n + 1)).map _ = _
    rw [List.range_succ, List.map_append]
    rfl
theorem ack_outM {s : Lg} (h : s.Ok) {j : Nat} (hj : j < s.m) (hd : s.ds j ≤ s.n) : (s.ack j).outM = s.outM.drop (s.ds j) ∧ (s.ack j).wait = s.wait := by
  have e : s.hit (j : Int) = true := by rw [hit_nat hj]; exact decide_eq_true hd
  have h1 := n_lt h
  have h2 := (num_ds h (ds_lt h j) hj).2 rfl
  unfold Lg.ack
  rw [e, Int.toNat_natCast]
  refine ⟨?_, ?_⟩
  · unfold outM
    show (List.range (s.n - s.ds j)).map (fun i => ((((j + i) % s.m : Nat) : Int), (s.l.drop (s.ds j)).getD i [])) = _
    apply List.ext_getElem?
    intro i
    rw [List.getElem?_drop, List.getElem?_map, List.getElem?_map]
    by_cases hi : i < s.n - s.ds j
    · rw [List.getElem?_range hi, List.getElem?_range (by omega)]
      simp only [Option.map_some]
      rw [List.getD_eq_getElem?_getD, List.getElem?_drop, ← List.getD_eq_getElem?_getD]
      have : (j + i) % s.m = (s.f + (s.ds j + i)) % s.m := by rw [← Nat.add_assoc, ← Nat.mod_add_mod (s.f + s.ds j), h2]
      rw [this]
    · rw [List.getElem?_eq_none (by simp; omega), List.getElem?_eq_none (by simp; omega)]
      rfl
  · show (s.l.drop (s.ds j)).drop (s.n - s.ds j) = s.l.drop s.n
    rw [List.drop_drop]
    congr 1
    omega
theorem clear_out (s : Lg) : s.clear.outM = [] ∧ s.clear.wait = [] := ⟨rfl, rfl⟩
end Lg

/-- the cells of a log of the reference -/
def rlc (m W Q x : Nat) (A : Option Addr) (n c : Nat) (B : Option Addr) (k d : Nat) : Array Value := #[.int .i64 (m : Int), .int .i64 (W : Int), .int .i64 (Q : Int), .int .i64 (x : Int), .slice A n c, .slice B k d]
/-- The block b holds a log of the reference with these fields; it, its rows and its messages lie in F. -/
def RlRaw (w : World) (F : Nat → Prop) (b m W Q x : Nat) (o : List (Int × List UInt8)) (t : List (List UInt8)) : Prop :=
  ∃ A c cs B d vs, w.heap[b]? = some (.cells (rlc m W Q x A o.length c B t.length d) 58 (0, 0)) ∧ (MidK 61 2 w A c o.length cs ∧ Ms w F cs o) ∧ (MidV 28 w B d vs ∧ Pcs w F vs t) ∧
    F b ∧ (∀ k, blk A = some k → F k) ∧ (∀ k, blk B = some k → F k) ∧ ∀ k, F k → k < w.heap.size
/-- The block b holds a log of the reference in the state s. -/
def RlP (w : World) (F : Nat → Prop) (b : Nat) (s : Lg) : Prop := RlRaw w F b s.m s.W s.Q s.nx s.outM s.wait ∧ s.Ok
/-- The log has come into the state s; nothing but it has turned. -/
def RlTurn (F : Nat → Prop) (b : Nat) (s : Lg) (w w' : World) : Prop := RlP w' (more F w w') b s ∧ Only F w w'
section
variable {w w' : World} {F G : Nat → Prop} {b m W Q x : Nat} {o : List (Int × List UInt8)} {t : List (List UInt8)} {s : Lg} {A B : Option Addr} {n c k d : Nat} {cs vs : List Value}
theorem rlcell (h : w.heap[b]? = some (.cells (rlc m W Q x A n c B k d) 58 (0, 0))) :
    w.cell? ⟨b, 0, none⟩ = some (.int .i64 (m : Int)) ∧ w.cell? ⟨b, 1, none⟩ = some (.int .i64 (W : Int)) ∧ w.cell? ⟨b, 2, none⟩ = some (.int .i64 (Q : Int)) ∧ w.cell? ⟨b, 3, none⟩ = some (.int .i64 (x : Int)) ∧ w.cell? ⟨b, 4, none⟩ = some (.slice A n c) ∧ w.cell? ⟨b, 5, none⟩ = some (.slice B k d) := by
  refine ⟨?_, ?_, ?_, ?_, ?_, ?_⟩ <;> rw [cell_of_row w b _ _ _ (0, 0) h] <;> rfl
theorem RlRaw.lt (h : RlRaw w F b m W Q x o t) : ∀ k, F k → k < w.heap.size := by obtain ⟨_, _, _, _, _, _, _, _, _, _, _, _, h⟩ := h; exact h
theorem RlRaw.only (h : RlRaw w F b m W Q x o t) (on : Only G w w') (hd : ∀ k, F k → ¬ G k) : RlRaw w' F b m W Q x o t := by
  obtain ⟨A, c, cs, B, d, vs, h1, ⟨h2, h3⟩, ⟨h4, h5⟩, h6, h7, h8, h9⟩ := h
  exact ⟨A, c, cs, B, d, vs, (on.block b (h9 b h6) (hd b h6)).trans h1, ⟨h2.only on (fun k hk => hd k (h7 k hk)), Ms.only on (fun k hk _ => hd k hk) (fun _ h => h) h3⟩, ⟨h4.only on (fun k hk => hd k (h8 k hk)), Pcs.only on (fun k hk _ => hd k hk) (fun _ h => h) h5⟩, h6, h7, h8, fun k hk => Nat.lt_of_lt_of_le (h9 k hk) on.size⟩
theorem RlRaw.drewN (h : RlRaw w F b m W Q x o t) (n : Nat) : RlRaw (w.drewN n) F b m W Q x o t :=
  h.only (G := fun _ => False) ⟨rfl, rfl, rfl, Nat.le_refl _, fun _ _ _ => rfl⟩ (fun _ _ h => h)
theorem RlRaw.more (h : RlRaw w' F b m W Q x o t) (hlt : ∀ k, F k → k < w.heap.size) (hs : w.heap.size ≤ w'.heap.size) : RlRaw w' (more F w w') b m W Q x o t := by
  obtain ⟨A, c, cs, B, d, vs, h1, ⟨h2, h3⟩, ⟨h4, h5⟩, h6, h7, h8, h9⟩ := h
  exact ⟨A, c, cs, B, d, vs, h1, ⟨h2, Ms.only (G := fun _ => False) (Only.refl _ _) (fun _ _ _ h => h) (fun _ h => .inl h) h3⟩, ⟨h4, Pcs.only (G := fun _ => False) (Only.refl _ _) (fun _ _ _ h => h) (fun _ h => .inl h) h5⟩, .inl h6, fun k hk => .inl (h7 k hk), fun k hk => .inl (h8 k hk), more_lt hlt hs⟩
theorem RlP.ok (h : RlP w F b s) : s.Ok := h.2
theorem RlP.lt (h : RlP w F b s) : ∀ k, F k → k < w.heap.size := h.1.lt
theorem RlP.only (h : RlP w F b s) (on : Only G w w') (hd : ∀ k, F k → ¬ G k) : RlP w' F b s := ⟨h.1.only on hd, h.2⟩
theorem RlP.drewN (h : RlP w F b s) (n : Nat) : RlP (w.drewN n) F b s := ⟨h.1.drewN n, h.2⟩
theorem RlTurn.of_same (h : RlP w' F b s) (on : Only F w w') (hlt : ∀ k, F k → k < w.heap.size) : RlTurn F b s w w' := ⟨⟨h.1.more hlt on.size, h.2⟩, on⟩
theorem RlTurn.refl (h : RlP w F b s) : RlTurn F b s w w := .of_same h (Only.refl _ _) h.lt
theorem RlTurn.from_drewN {n : Nat} (h : RlTurn F b s (w.drewN n) w') : RlTurn F b s w w' := ⟨h.1, ⟨h.2.os, h.2.tape, h.2.output, h.2.size, h.2.block⟩⟩
theorem RlTurn.drewN (h : RlTurn F b s w w') (n : Nat) : RlTurn F b s w (w'.drewN n) := ⟨⟨h.1.1.drewN n, h.1.2⟩, ⟨h.2.os, h.2.tape, h.2.output, h.2.size, h.2.block⟩⟩
/-- blocks of other types are other blocks -/
theorem rl_off (hb : w.heap[b]? = some (.cells (rlc m W Q x A n c B k d) 58 (0, 0))) {T : TypeId} (hT : T ≠ 58) : ∀ k, F k → (∃ cur, w.heap[k]? = some (.cells cur T (0, 0))) → ¬ k = b := fun k _ h e => by
  obtain ⟨cur, h⟩ := h
  rw [e] at h
  exact types_apart hT h hb
theorem pcs_off_msgs (hA : MidK 61 2 w A c n cs) : ∀ k, F k → (∃ cur, w.heap[k]? = some (.cells cur 5 (0, 0))) → ¬ blk A = some k := fun k _ h e => by
  obtain ⟨cur, h⟩ := h
  obtain ⟨cur', h'⟩ := hA.type k e
  exact types_apart (by decide) h h'
theorem pcs_off_rows (hB : MidV 28 w B d vs) : ∀ k, F k → (∃ cur, w.heap[k]? = some (.cells cur 5 (0, 0))) → ¬ blk B = some k := fun k _ h e => by
  obtain ⟨cur, h⟩ := h
  obtain ⟨cur', h'⟩ := hB.type k e
  exact types_apart (by decide) h h'
theorem rows_off_msgs (hA : MidK 61 2 w A c n cs) {B' : Option Addr} {d' : Nat} {vs' : List Value} (hB : MidV 28 w B' d' vs') : ∀ k, blk B' = some k → ¬ blk A = some k := fun k h e => by
  obtain ⟨cur, h⟩ := hB.type k h
  obtain ⟨cur', h'⟩ := hA.type k e
  exact types_apart (by decide) h h'
/-- one field has turned; the rows are what they are -/
theorem rl_set {m' W' Q' x' : Nat} {A' B' : Option Addr} {n' c' k' d' : Nat} (hb : w.heap[b]? = some (.cells (rlc m' W' Q' x' A' n' c' B' k' d') 58 (0, 0))) (j : Nat) (u : Value)
    (hC : (rlc m' W' Q' x' A' n' c' B' k' d').setIfInBounds j u = rlc m W Q x A o.length c B t.length d)
    (hA : MidK 61 2 w A c o.length cs) (hM : Ms w F cs o) (hB : MidV 28 w B d vs) (hP : Pcs w F vs t)
    (hF : F b) (hFA : ∀ k, blk A = some k → F k) (hFB : ∀ k, blk B = some k → F k) (hlt : ∀ k, F k → k < w.heap.size) :
    w.frozen? ⟨b, j, none⟩ = false ∧ RlRaw (w.setCell ⟨b, j, none⟩ u) F b m W Q x o t ∧ Only F w (w.setCell ⟨b, j, none⟩ u) := by
  have on := only_set w ⟨b, j, none⟩ u
  refine ⟨frozen_of_row w b j _ _ hb, ⟨A, c, cs, B, d, vs, ?_, ⟨hA.only on (fun k hk => ?_), Ms.only on (rl_off hb (by decide)) (fun _ h => h) hM⟩, ⟨hB.only on (fun k hk => ?_), Pcs.only on (rl_off hb (by decide)) (fun _ h => h) hP⟩, hF, hFA, hFB, fun k hk => Nat.lt_of_lt_of_le (hlt k hk) on.size⟩, on.mono (fun k _ e => by rw [e]; exact hF)⟩
  · rw [← hC]
    exact heap_setCell_same w b j _ _ _ hb
  · exact rl_off (F := F) hb (by decide) k (hFA k hk) (hA.type k hk)
  · exact rl_off (F := F) hb (by decide) k (hFB k hk) (hB.type k hk)
theorem RlP.fresh (w : World) (m W Q : Int) : RlP (w.alloc (.cells (rlc (Lg.new m W Q).m (Lg.new m W Q).W (Lg.new m W Q).Q 0 none 0 0 none 0 0) 58)) (fun k => k = w.heap.size) w.heap.size (Lg.new m W Q) := by
  refine ⟨⟨none, 0, [], none, 0, [], ?_, ⟨MidK.nil _ _ _, trivial⟩, ⟨MidV.nil _ _, trivial⟩, rfl, fun k hk => by simp [blk] at hk, fun k hk => by simp [blk] at hk, fun k hk => by simp; omega⟩, Lg.new_ok m W Q⟩
  rw [Lg.new_nx]
  exact heap_alloc_new w _
end
theorem rlRound_calls (m W : Int) (w : World) : Calls Try.prog 28 #[.int .i64 m, .int .i64 W] w fun e w' => e = .returned (.tuple #[.int .i64 ((Lg.new m W 0).m : Int), .int .i64 ((Lg.new m W 0).W : Int)]) ∧ w' = w := by
  have ok := Lg.new_ok m W 0
  have L1 := fun v => cutR_calls m 8 32768 (by decide) v
  have L2 := fun v => cutR_calls W 1 (((Lg.new m W 0).m : Int) / 8) (by have := ok.w1; have := ok.w8; omega) v
  rw [Lg.new_m m W 0] at L1
  rw [Lg.new_W] at L2
  have b1 := ok.m8
  have b2 := ok.m9
  clear ok
  generalize Lg.new m W 0 = s at *
  have hq : wrap64 ((s.m : Int) / 8) = (s.m : Int) / 8 := by unfold wrap64; omega
  go_enter Try.func28, Try.ntmps28
  go_wp2_with fail
  refine (L1 _).mono ?_
  rintro e w' ⟨rfl, rfl⟩
  go_wp2_with fail
  refine (L2 _).mono ?_
  rintro e w' ⟨rfl, rfl⟩
  go_wp2
  go_ret2
  exact ⟨rfl, rfl⟩
theorem rlNew_calls (m W Q : Int) (w : World) : Calls Try.prog 9 #[.int .i64 m, .int .i64 W, .int .i64 Q] w fun e w' => e = .returned (.pointer (some ⟨w.heap.size, 0, none⟩)) ∧ w.alloc (.cells (rlc (Lg.new m W Q).m (Lg.new m W Q).W (Lg.new m W Q).Q 0 none 0 0 none 0 0) 58) = w' := by
  have L1 := fun v => rlRound_calls m W v
  have L3 := fun v => cutR_calls Q 0 1000 (by decide) v
  rw [show (Lg.new m W 0).m = (Lg.new m W Q).m from rfl, show (Lg.new m W 0).W = (Lg.new m W Q).W from rfl] at L1
  rw [Lg.new_Q m W Q] at L3
  generalize Lg.new m W Q = s at *
  unfold rlc
  go_enter Try.func9, Try.ntmps9
  go_wp2_with fail
  refine (L1 _).mono ?_
  rintro e w' ⟨rfl, rfl⟩
  go_wp2_with fail
  refine (L3 _).mono ?_
  rintro e w' ⟨rfl, rfl⟩
  go_wp2
  go_ret
  exact ⟨rfl, rfl⟩
section
variable {w : World} {F : Nat → Prop} {b m W Q x : Nat} {s : Lg}
theorem rlLen_calls (h : RlP w F b s) : Calls Try.prog 25 #[.pointer (some ⟨b, 0, none⟩)] w fun e w' => e = .returned (.int .i64 (s.l.length : Int)) ∧ ∃ q, w' = w.drewN q := by
  have ok := h.2
  have h1 := Lg.outM_len s
  have h2 := Lg.wait_len s
  have h3 := ok.nl
  have h4 := ok.len
  obtain ⟨⟨A, c, cs, B, d, vs, hb, _⟩, _⟩ := h
  obtain ⟨c0, c1, c2, c3, c4, c5⟩ := rlcell hb
  have hs : ((s.outM.length : Nat) : Int) + ((s.wait.length : Nat) : Int) = (s.l.length : Int) := by omega
  have hw : wrap64 (((s.outM.length : Nat) : Int) + ((s.wait.length : Nat) : Int)) = (s.l.length : Int) := by unfold wrap64; omega
  clear hb c0 c1 c2 c3 ok h1 h2 h3
  generalize s.outM.length = p at *
  generalize s.wait.length = q at *
  generalize s.l.length = n at *
  go_enter Try.func25, Try.ntmps25
  go_wp2_with fail
  go_quiet (fail)
  go_wp2
  go_ret
  exact ⟨rfl, _, rfl⟩
set_option maxHeartbeats 400000 in
theorem rlClear_calls (h : RlP w F b s) : Calls Try.prog 20 #[.pointer (some ⟨b, 0, none⟩)] w fun e w' => e = .returned (.int .i64 (s.l.length : Int)) ∧ RlP w' F b s.clear ∧ Only F w w' := by
  have okC := h.2.clear
  have hnx := Lg.clear_nx s
  have LN := rlLen_calls h
  obtain ⟨⟨A, c, cs, B, d, vs, h1, ⟨h2, h3⟩, ⟨h4, h5⟩, h6, h7, h8, h9⟩, ok⟩ := h
  obtain ⟨c0, c1, c2, c3, c4, c5⟩ := rlcell h1
  have y3 := frozen_of_row w b 3 _ _ h1
  have y4 := frozen_of_row w b 4 _ _ h1
  have y5 := frozen_of_row w b 5 _ _ h1
  have FI := Lib.hid (show ∀ q, RlP ((((w.drewN q).setCell ⟨b, 4, none⟩ (.slice none 0 0)).setCell ⟨b, 5, none⟩ (.slice none 0 0)).setCell ⟨b, 3, none⟩ (.int .i64 0)) F b s.clear ∧ Only F w ((((w.drewN q).setCell ⟨b, 4, none⟩ (.slice none 0 0)).setCell ⟨b, 5, none⟩ (.slice none 0 0)).setCell ⟨b, 3, none⟩ (.int .i64 0)) from fun q => by
    have o0 : Only (fun _ => False) w (w.drewN q) := ⟨rfl, rfl, rfl, Nat.le_refl _, fun _ _ _ => rfl⟩
    obtain ⟨z1, raw1, on1⟩ := rl_set (w := w.drewN q) (F := F) (o := []) (t := s.wait) (A := none) (c := 0) (cs := []) h1 4 (.slice none 0 0) rfl (MidK.nil _ _ _) trivial (h4.drewN q) (Pcs.only (G := fun _ => False) o0 (fun _ _ _ h => h) (fun _ h => h) h5) h6 (fun k hk => by simp [blk] at hk) h8 h9
    obtain ⟨A1, c1, cs1, B1, d1, vs1, g1, ⟨g2, g3⟩, ⟨g4, g5⟩, g6, g7, g8, g9⟩ := raw1
    obtain ⟨z2, raw2, on2⟩ := rl_set (F := F) (o := []) (t := []) (B := none) (d := 0) (vs := []) g1 5 (.slice none 0 0) rfl g2 g3 (MidV.nil _ _) trivial g6 g7 (fun k hk => by simp [blk] at hk) g9
    obtain ⟨A2, c2, cs2, B2, d2, vs2, e1, ⟨e2, e3⟩, ⟨e4, e5⟩, e6, e7, e8, e9⟩ := raw2
    obtain ⟨z3, raw3, on3⟩ := rl_set (F := F) (o := []) (t := []) e1 3 (.int .i64 ((0 : Nat) : Int)) rfl e2 e3 e4 e5 e6 e7 e8 e9
    refine ⟨⟨?_, okC⟩, ((on1.trans on2 (fun _ _ h => h)).trans on3 (fun _ _ h => h) : Only F (w.drewN q) _) |> only_from_drewN⟩
    rw [hnx]
    exact raw3)
  clear h1 h2 h3 h4 h5 h6 h7 h8 h9 ok okC hnx c0 c1 c2
  generalize s.outM.length = k at *
  generalize s.wait.length = k' at *
  generalize s.l.length = n at *
  generalize s.nx = x at *
  go_enter Try.func20, Try.ntmps20
  go_wp2_with fail
  refine LN.mono ?_
  rintro e w' ⟨rfl, q, rfl⟩
  have FK := Lib.hid (FI.out q)
  have d3 : (w.drewN q).cell? ⟨b, 3, none⟩ = some (.int .i64 (x : Int)) := c3
  have d4 : (w.drewN q).cell? ⟨b, 4, none⟩ = some (.slice A k c) := c4
  have d5 : (w.drewN q).cell? ⟨b, 5, none⟩ = some (.slice B k' d) := c5
  have u3 : (w.drewN q).frozen? ⟨b, 3, none⟩ = false := y3
  have u4 : (w.drewN q).frozen? ⟨b, 4, none⟩ = false := y4
  have u5 : (w.drewN q).frozen? ⟨b, 5, none⟩ = false := y5
  clear FI LN c3 c4 c5 y3 y4 y5
  go_wp2
  go_ret
  exact ⟨rfl, FK.out⟩
end
end Go.Proofs.Yteofffnfafhgfaa

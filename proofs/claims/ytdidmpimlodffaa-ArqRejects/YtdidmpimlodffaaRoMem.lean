/- An order of the reference in memory: its fields, the messages that are kept, those that are ready; NewOrder, Next, Gap, Clear, find. No condition. -/
import Derived.Test.YtdidmpimlodffaaMsgRow
import Derived.Test.YtdidmpimlodffaaG2
import Derived.Test.YtdidmpimlodffaaCutR
import Derived.Test.YtdidmpimlodffaaG1
import Derived.BigQuiet
import Derived.Deep.LoopGhost
namespace Go.Proofs.Ytdidmpimlodffaa
open Go.RowKit
set_option linter.unusedVariables false

/-- the cells of an order of the reference -/
def roc (m W e : Nat) (A : Option Addr) (n c : Nat) (B : Option Addr) (k d : Nat) : Array Value := #[.int .i64 (m : Int), .int .i64 (W : Int), .int .i64 (e : Int), .slice A n c, .slice B k d]
/-- The block b holds an order of the reference with these fields; it, its rows and its messages lie in F. -/
def RoRaw (w : World) (F : Nat → Prop) (b m W e : Nat) (o : List (Int × List UInt8)) (t : List (List UInt8)) : Prop :=
  ∃ A c cs B d vs, w.heap[b]? = some (.cells (roc m W e A o.length c B t.length d) 95 (0, 0)) ∧ (MidK 98 2 w A c o.length cs ∧ Ms w F cs o) ∧ (MidV 39 w B d vs ∧ Pcs w F vs t) ∧
    F b ∧ (∀ k, blk A = some k → F k) ∧ (∀ k, blk B = some k → F k) ∧ ∀ k, F k → k < w.heap.size
/-- The block b holds an order of the reference in the state s. -/
def RoP (w : World) (F : Nat → Prop) (b : Nat) (s : Od) : Prop := RoRaw w F b s.m s.W s.e s.k s.r ∧ s.Ok
/-- The order has come into the state s; nothing but it has turned. -/
def RoTurn (F : Nat → Prop) (b : Nat) (s : Od) (w w' : World) : Prop := RoP w' (more F w w') b s ∧ Only F w w'
section
variable {w w' : World} {F G : Nat → Prop} {b m W e : Nat} {o : List (Int × List UInt8)} {t : List (List UInt8)} {s : Od} {A B : Option Addr} {n c k d : Nat} {cs vs : List Value}
theorem rocell (h : w.heap[b]? = some (.cells (roc m W e A n c B k d) 95 (0, 0))) :
    w.cell? ⟨b, 0, none⟩ = some (.int .i64 (m : Int)) ∧ w.cell? ⟨b, 1, none⟩ = some (.int .i64 (W : Int)) ∧ w.cell? ⟨b, 2, none⟩ = some (.int .i64 (e : Int)) ∧ w.cell? ⟨b, 3, none⟩ = some (.slice A n c) ∧ w.cell? ⟨b, 4, none⟩ = some (.slice B k d) := by
  refine ⟨?_, ?_, ?_, ?_, ?_⟩ <;> rw [cell_of_row w b _ _ _ (0, 0) h] <;> rfl
theorem RoRaw.lt (h : RoRaw w F b m W e o t) : ∀ k, F k → k < w.heap.size := by obtain ⟨_, _, _, _, _, _, _, _, _, _, _, _, h⟩ := h; exact h
theorem RoRaw.only (h : RoRaw w F b m W e o t) (on : Only G w w') (hd : ∀ k, F k → ¬ G k) : RoRaw w' F b m W e o t := by
  obtain ⟨A, c, cs, B, d, vs, h1, ⟨h2, h3⟩, ⟨h4, h5⟩, h6, h7, h8, h9⟩ := h
  exact ⟨A, c, cs, B, d, vs, (on.block b (h9 b h6) (hd b h6)).trans h1, ⟨h2.only on (fun k hk => hd k (h7 k hk)), Ms.only on (fun k hk _ => hd k hk) (fun _ h => h) h3⟩, ⟨h4.only on (fun k hk => hd k (h8 k hk)), Pcs.only on (fun k hk _ => hd k hk) (fun _ h => h) h5⟩, h6, h7, h8, fun k hk => Nat.lt_of_lt_of_le (h9 k hk) on.size⟩
theorem RoRaw.drewN (h : RoRaw w F b m W e o t) (n : Nat) : RoRaw (w.drewN n) F b m W e o t :=
  h.only (G := fun _ => False) ⟨rfl, rfl, rfl, Nat.le_refl _, fun _ _ _ => rfl⟩ (fun _ _ h => h)
theorem RoRaw.into (h : RoRaw w F b m W e o t) (hG : ∀ k, F k → G k) (hlt : ∀ k, G k → k < w.heap.size) : RoRaw w G b m W e o t := by
  obtain ⟨A, c, cs, B, d, vs, h1, ⟨h2, h3⟩, ⟨h4, h5⟩, h6, h7, h8, h9⟩ := h
  exact ⟨A, c, cs, B, d, vs, h1, ⟨h2, Ms.only (G := fun _ => False) (Only.refl _ _) (fun _ _ _ h => h) hG h3⟩, ⟨h4, Pcs.only (G := fun _ => False) (Only.refl _ _) (fun _ _ _ h => h) hG h5⟩, hG b h6, fun k hk => hG k (h7 k hk), fun k hk => hG k (h8 k hk), hlt⟩
theorem RoRaw.more (h : RoRaw w' F b m W e o t) (hlt : ∀ k, F k → k < w.heap.size) (hs : w.heap.size ≤ w'.heap.size) : RoRaw w' (more F w w') b m W e o t := h.into (fun _ h => .inl h) (more_lt hlt hs)
theorem RoRaw.mem (h : RoRaw w F b m W e o t) : F b := by obtain ⟨_, _, _, _, _, _, _, _, _, h, _⟩ := h; exact h
theorem RoP.ok (h : RoP w F b s) : s.Ok := h.2
theorem RoP.lt (h : RoP w F b s) : ∀ k, F k → k < w.heap.size := h.1.lt
theorem RoP.only (h : RoP w F b s) (on : Only G w w') (hd : ∀ k, F k → ¬ G k) : RoP w' F b s := ⟨h.1.only on hd, h.2⟩
theorem RoP.drewN (h : RoP w F b s) (n : Nat) : RoP (w.drewN n) F b s := ⟨h.1.drewN n, h.2⟩
theorem RoTurn.of_same (h : RoP w' F b s) (on : Only F w w') (hlt : ∀ k, F k → k < w.heap.size) : RoTurn F b s w w' := ⟨⟨h.1.more hlt on.size, h.2⟩, on⟩
theorem RoTurn.refl (h : RoP w F b s) : RoTurn F b s w w := .of_same h (Only.refl _ _) h.lt
theorem RoTurn.from_drewN {n : Nat} (h : RoTurn F b s (w.drewN n) w') : RoTurn F b s w w' := ⟨h.1, ⟨h.2.os, h.2.tape, h.2.output, h.2.size, h.2.block⟩⟩
theorem RoTurn.drewN (h : RoTurn F b s w w') (n : Nat) : RoTurn F b s w (w'.drewN n) := ⟨⟨h.1.1.drewN n, h.1.2⟩, ⟨h.2.os, h.2.tape, h.2.output, h.2.size, h.2.block⟩⟩
/-- two turns, one behind the other -/
theorem ro_trans {w1 w2 : World} (hlt : ∀ k, F k → k < w.heap.size) (on1 : Only F w w1) (h : RoRaw w2 (more (Proofs.Ytdidmpimlodffaa.more F w w1) w1 w2) b m W e o t) (on2 : Only (Proofs.Ytdidmpimlodffaa.more F w w1) w1 w2) : RoRaw w2 (Proofs.Ytdidmpimlodffaa.more F w w2) b m W e o t ∧ Only F w w2 := by
  have on : Only F w w2 := on1.trans on2 (fun k hk hm => hm.elim id (fun h => by omega))
  have s1 := on1.size
  have s2 := on2.size
  refine ⟨h.into (fun k hk => ?_) (more_lt hlt on.size), on⟩
  rcases hk with (hk | ⟨h1, h2⟩) | ⟨h1, h2⟩
  · exact .inl hk
  · exact .inr ⟨h1, Nat.lt_of_lt_of_le h2 s2⟩
  · exact .inr ⟨Nat.le_trans s1 h1, h2⟩
/-- blocks of other types are other blocks -/
theorem ro_off (hb : w.heap[b]? = some (.cells (roc m W e A n c B k d) 95 (0, 0))) {T : TypeId} (hT : T ≠ 95) : ∀ k, F k → (∃ cur, w.heap[k]? = some (.cells cur T (0, 0))) → ¬ k = b := fun k _ h e => by
  obtain ⟨cur, h⟩ := h
  rw [e] at h
  exact types_apart hT h hb
theorem ro_off_msgs (hA : MidK 98 2 w A c n cs) : ∀ k, F k → (∃ cur, w.heap[k]? = some (.cells cur 5 (0, 0))) → ¬ blk A = some k := fun k _ h e => by
  obtain ⟨cur, h⟩ := h
  obtain ⟨cur', h'⟩ := hA.type k e
  exact types_apart (by decide) h h'
theorem ro_off_rows (hB : MidV 39 w B d vs) : ∀ k, F k → (∃ cur, w.heap[k]? = some (.cells cur 5 (0, 0))) → ¬ blk B = some k := fun k _ h e => by
  obtain ⟨cur, h⟩ := h
  obtain ⟨cur', h'⟩ := hB.type k e
  exact types_apart (by decide) h h'
theorem ro_rows_msgs (hA : MidK 98 2 w A c n cs) {B' : Option Addr} {d' : Nat} {vs' : List Value} (hB : MidV 39 w B' d' vs') : ∀ k, blk B' = some k → ¬ blk A = some k := fun k h e => by
  obtain ⟨cur, h⟩ := hB.type k h
  obtain ⟨cur', h'⟩ := hA.type k e
  exact types_apart (by decide) h h'
/-- one field has turned; the rows are what they are -/
theorem ro_set {m' W' e' : Nat} {A' B' : Option Addr} {n' c' k' d' : Nat} (hb : w.heap[b]? = some (.cells (roc m' W' e' A' n' c' B' k' d') 95 (0, 0))) (j : Nat) (u : Value)
    (hC : (roc m' W' e' A' n' c' B' k' d').setIfInBounds j u = roc m W e A o.length c B t.length d)
    (hA : MidK 98 2 w A c o.length cs) (hM : Ms w F cs o) (hB : MidV 39 w B d vs) (hP : Pcs w F vs t)
    (hF : F b) (hFA : ∀ k, blk A = some k → F k) (hFB : ∀ k, blk B = some k → F k) (hlt : ∀ k, F k → k < w.heap.size) :
    w.frozen? ⟨b, j, none⟩ = false ∧ RoRaw (w.setCell ⟨b, j, none⟩ u) F b m W e o t ∧ Only F w (w.setCell ⟨b, j, none⟩ u) := by
  have on := only_set w ⟨b, j, none⟩ u
  refine ⟨frozen_of_row w b j _ _ hb, ⟨A, c, cs, B, d, vs, ?_, ⟨hA.only on (fun k hk => ?_), Ms.only on (ro_off hb (by decide)) (fun _ h => h) hM⟩, ⟨hB.only on (fun k hk => ?_), Pcs.only on (ro_off hb (by decide)) (fun _ h => h) hP⟩, hF, hFA, hFB, fun k hk => Nat.lt_of_lt_of_le (hlt k hk) on.size⟩, on.mono (fun k _ e => by rw [e]; exact hF)⟩
  · rw [← hC]
    exact heap_setCell_same w b j _ _ _ hb
  · exact ro_off (F := F) hb (by decide) k (hFA k hk) (hA.type k hk)
  · exact ro_off (F := F) hb (by decide) k (hFB k hk) (hB.type k hk)
theorem RoP.fresh (w : World) (m W : Int) : RoP (w.alloc (.cells (roc (Od.new m W).m (Od.new m W).W 0 none 0 0 none 0 0) 95)) (fun k => k = w.heap.size) w.heap.size (Od.new m W) :=
  ⟨⟨none, 0, [], none, 0, [], heap_alloc_new w _, ⟨MidK.nil _ _ _, trivial⟩, ⟨MidV.nil _ _, trivial⟩, rfl, fun k hk => by simp [blk] at hk, fun k hk => by simp [blk] at hk, fun k hk => by simp; omega⟩, Od.new_ok m W⟩
end
theorem roRound_calls (m W : Int) (w : World) : Calls Try.prog 54 #[.int .i64 m, .int .i64 W] w fun e w' => e = .returned (.tuple #[.int .i64 ((Od.new m W).m : Int), .int .i64 ((Od.new m W).W : Int)]) ∧ w' = w := by
  have ok := Od.new_ok m W
  have L1 := fun v => cutR_calls m 8 32768 (by decide) v
  have L2 := fun v => cutR_calls W 1 (((Od.new m W).m : Int) / 8) (by have := ok.w1; have := ok.w8; omega) v
  rw [Od.new_m m W] at L1
  rw [Od.new_W] at L2
  have b1 := ok.m8
  have b2 := ok.m9
  clear ok
  generalize Od.new m W = s at *
  have hq : wrap64 ((s.m : Int) / 8) = (s.m : Int) / 8 := by unfold wrap64; omega
  go_enter Try.func54, Try.ntmps54
  go_wp2_with fail
  refine (L1 _).mono ?_
  rintro e w' ⟨rfl, rfl⟩
  go_wp2_with fail
  refine (L2 _).mono ?_
  rintro e w' ⟨rfl, rfl⟩
  go_wp2
  go_ret2
  exact ⟨rfl, rfl⟩
theorem roNew_calls (m W : Int) (w : World) : Calls Try.prog 33 #[.int .i64 m, .int .i64 W] w fun e w' => e = .returned (.pointer (some ⟨w.heap.size, 0, none⟩)) ∧ w.alloc (.cells (roc (Od.new m W).m (Od.new m W).W 0 none 0 0 none 0 0) 95) = w' := by
  have L1 := fun v => roRound_calls m W v
  generalize Od.new m W = s at *
  unfold roc
  go_enter Try.func33, Try.ntmps33
  go_wp2_with fail
  refine (L1 _).mono ?_
  rintro e w' ⟨rfl, rfl⟩
  go_wp2
  go_ret
  exact ⟨rfl, rfl⟩
section
variable {w : World} {F : Nat → Prop} {b m W e : Nat} {o : List (Int × List UInt8)} {t : List (List UInt8)} {s : Od}
theorem roNext_calls (h : RoP w F b s) : Calls Try.prog 36 #[.pointer (some ⟨b, 0, none⟩)] w fun e w' => e = .returned (.int .i64 (s.e : Int)) ∧ w' = w := by
  obtain ⟨⟨A, c, cs, B, d, vs, hb, _⟩, _⟩ := h
  obtain ⟨c0, c1, c2, c3, c4⟩ := rocell hb
  clear hb c0 c1 c3 c4
  generalize s.e = m at *
  go_enter Try.func36, Try.ntmps36
  go_wp2
  go_ret
  exact ⟨rfl, rfl⟩
theorem roGap_calls (h : RoP w F b s) : Calls Try.prog 35 #[.pointer (some ⟨b, 0, none⟩)] w fun e w' => e = .returned (.bool s.gap) ∧ w' = w := by
  obtain ⟨⟨A, c, cs, B, d, vs, hb, _⟩, _⟩ := h
  obtain ⟨c0, c1, c2, c3, c4⟩ := rocell hb
  have hg : s.gap = decide ((0 : Int) < (s.k.length : Int)) := by
    unfold Od.gap
    cases s.k with
    | nil => rfl
    | cons p l => simp
  rw [hg]
  clear hb c0 c1 c2 c4 hg
  generalize s.k.length = m at *
  go_enter Try.func35, Try.ntmps35
  go_wp2
  go_ret
  exact ⟨by simp, rfl⟩
/-- the place that find tells -/
def fnd (l : List (Int × List UInt8)) (n : Int) : Int := if (lk l n).isSome then (fi l n : Int) else -1
/-- what the messages that are kept look like in memory -/
theorem ro_kept (h : RoRaw w F b m W e o t) : ∃ A c, w.cell? ⟨b, 3, none⟩ = some (.slice A o.length c) ∧ o.length ≤ c ∧ c ≤ maxLen ∧ ((A = none ∧ o.length = 0 ∧ c = 0) ∨ ∃ g off, A = some ⟨g, off, none⟩ ∧ g < w.heap.size ∧
    ∀ i, i < o.length → w.cell? ⟨g, off + i * 2, none⟩ = some (.int .i64 (o.getD i (0, [])).1) ∧ ∃ B d, w.cell? ⟨g, off + i * 2 + 1, none⟩ = some (.slice B (o.getD i (0, [])).2.length d) ∧ Pc w F (.slice B (o.getD i (0, [])).2.length d) (o.getD i (0, [])).2) := by
  obtain ⟨A, c, cs, B, d, vs, h1, ⟨h2, h3⟩, ⟨h4, h5⟩, h6, h7, h8, h9⟩ := h
  refine ⟨A, c, (rocell h1).2.2.2.1, h2.2.1, h2.2.2.1, ?_⟩
  rcases h2.2.2.2 with ⟨h0, hc⟩ | ⟨g, off, cur, hA, hg, hs, hcl⟩
  · exact .inl ⟨h0, by have := h2.2.1; omega, hc⟩
  · refine .inr ⟨g, off, hA, lt_of_block hg, fun i hi => ?_⟩
    obtain ⟨k1, B', d', k2, k3, k4⟩ := h3.at_ hi
    exact ⟨hcl _ _ k1, B', d', by rw [Nat.add_assoc]; exact hcl _ _ k2, B', d', rfl, k3, k4⟩
set_option maxHeartbeats 1000000 in
theorem roFind_calls (h : RoRaw w F b m W e o t) (ho : o.length ≤ 100000) (n : Int) : Calls Try.prog 57 #[.pointer (some ⟨b, 0, none⟩), .int .i64 n] w fun e w' => e = .returned (.int .i64 (fnd o n)) ∧ w' = w := by
  obtain ⟨A, c, q3, hc1, hc2, hAC⟩ := ro_kept h
  have HIT := Lib.hid (show ∀ i, i < o.length → (∀ j, j < i → (o.getD j (0, [])).1 ≠ n) → (o.getD i (0, [])).1 = n → fnd o n = (i : Int) from fun i hi h1 h2 => by
    have hg : o[i]? = some (o.getD i (0, [])) := by rw [List.getD_eq_getElem?_getD, List.getElem?_eq_getElem hi]; rfl
    have h3 : fi o n = i := fi_eq (fun j q hj hq => by
      have := h1 j hj
      rw [List.getD_eq_getElem?_getD, hq] at this
      exact this) hg h2
    have h4 : (lk o n).isSome = true := by
      cases hk : lk o n with
      | none => have := fi_none hk; omega
      | some x => rfl
    unfold fnd
    rw [h4, h3]
    rfl)
  have NON := Lib.hid (show (∀ j, j < o.length → (o.getD j (0, [])).1 ≠ n) → fnd o n = -1 from fun h1 => by
    have h2 : lk o n = none := fi_eq_len (fun j q hq => by
      have hj : j < o.length := (List.getElem?_eq_some_iff.1 hq).1
      have := h1 j hj
      rw [List.getD_eq_getElem?_getD, hq] at this
      exact this)
    unfold fnd
    rw [h2]
    rfl)
  have hcm : c ≤ 9223372036854775807 := by unfold maxLen at hc2; omega
  clear h hc2
  generalize fnd o n = r at *
  generalize hnn : o.length = N at *
  clear hnn
  go_enter Try.func57, Try.ntmps57
  go_wp2_with fail
  go_loopg [5] N (fun kx s5 wr => ∃ i : Nat, s5 = .int .i64 (i : Int) ∧ i ≤ N ∧ N - i ≤ kx ∧ w = wr ∧ Aside (∀ j, j < i → (o.getD j (0, [])).1 ≠ n))
  case atStart => exact ⟨0, rfl, by omega, by omega, rfl, fun j hj => by omega⟩
  case round =>
    obtain ⟨i, rfl, hi, hkx, rfl, HN⟩ := hrel
    by_cases hlt : i < N
    · have g2 : (i : Int) < (N : Int) := by omega
      rcases hAC with ⟨_, hA0, _⟩ | ⟨g, off, rfl, hgs, hcl⟩
      · omega
      obtain ⟨qi, _⟩ := hcl i hlt
      have g4 : (0 : Int) ≤ (i : Int) := by omega
      clear hcl
      by_cases hkq : (o.getD i (0, [])).1 = n
      · have hr := Lib.hid (HIT.out i hlt HN.out hkq)
        have g3 : ((o.getD i (0, [])).1 == n) = true := beq_iff_eq.2 hkq
        clear HN HIT NON hkq
        generalize (o.getD i (0, [])).1 = y at *
        go_wp2
        go_ret
        exact ⟨ret_int hr.out.symm, rfl⟩
      · have g3 : ((o.getD i (0, [])).1 == n) = false := beq_eq_false_iff_ne.2 hkq
        have HN2 : Aside (∀ j, j < i + 1 → (o.getD j (0, [])).1 ≠ n) := fun j hj => by
          rcases Nat.lt_or_ge j i with h | h
          · exact HN.out j h
          · rw [show j = i by omega]; exact hkq
        obtain ⟨y, hy⟩ : ∃ y, (o.getD i (0, [])).1 = y := ⟨_, rfl⟩
        rw [hy] at qi g3
        clear HN HIT NON hkq hy
        go_wp2
        go_roundg (N - (i + 1))
        case measure => omega
        case rel => exact ⟨i + 1, by go_num, by omega, Nat.le_refl _, rfl, HN2⟩
    · have g1 : ¬ (i : Int) < (N : Int) := by omega
      have hr := Lib.hid (NON.out (fun j hj => HN.out j (by omega)))
      clear HN HIT NON hAC
      go_wp2
      go_ret
      exact ⟨ret_int hr.out.symm, rfl⟩
end
end Go.Proofs.Ytdidmpimlodffaa

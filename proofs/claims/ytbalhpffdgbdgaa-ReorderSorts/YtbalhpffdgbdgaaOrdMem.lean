/- An order of the program in memory: its fields, the map of what is kept, the row of what is ready; New, Next, Gap, Clear. No condition. -/
import Derived.Test.YtbalhpffdgbdgaaPcRow
import Derived.Test.YtbalhpffdgbdgaaStepMap
import Derived.Test.YtbalhpffdgbdgaaCloneOwn
import Derived.Test.YtbalhpffdgbdgaaSerNum
import Derived.BigQuiet
import Derived.StillTailTactics
namespace Go.Proofs.Ytbalhpffdgbdgaa
open Go.RowKit
set_option linter.unusedVariables false

/-- the values V lead to the messages l, number by number, in F -/
def Kp (w : World) (F : Nat → Prop) : List (Int × Value) → List (Int × List UInt8) → Prop
  | [], [] => True
  | p :: V, q :: l => p.1 = q.1 ∧ Pc w F p.2 q.2 ∧ Kp w F V l
  | _, _ => False
section
variable {w w' : World} {F G : Nat → Prop} {V : List (Int × Value)} {l : List (Int × List UInt8)} {n : Int} {v : Value} {x : List UInt8}
theorem Kp.len : ∀ {V : List (Int × Value)} {l : List (Int × List UInt8)}, Kp w F V l → V.length = l.length
  | [], [], _ => rfl
  | _ :: _, _ :: _, h => by simp [Kp.len h.2.2]
  | [], _ :: _, h => h.elim
  | _ :: _, [], h => h.elim
theorem Kp.only {H : Nat → Prop} (o : Only G w w') (hG : ∀ k, F k → (∃ cur, w.heap[k]? = some (.cells cur 5 (0, 0))) → ¬ G k) (hH : ∀ k, F k → H k) : ∀ {V : List (Int × Value)} {l : List (Int × List UInt8)}, Kp w F V l → Kp w' H V l
  | [], [], _ => trivial
  | _ :: _, _ :: _, h => ⟨h.1, h.2.1.only o hG hH, Kp.only o hG hH h.2.2⟩
  | [], _ :: _, h => h.elim
  | _ :: _, [], h => h.elim
theorem Kp.app : ∀ {V : List (Int × Value)} {l : List (Int × List UInt8)}, Kp w F V l → Pc w F v x → Kp w F (V ++ [(n, v)]) (l ++ [(n, x)])
  | [], [], _, h' => ⟨rfl, h', trivial⟩
  | _ :: _, _ :: _, h, h' => ⟨h.1, h.2.1, Kp.app h.2.2 h'⟩
  | [], _ :: _, h, _ => h.elim
  | _ :: _, [], h, _ => h.elim
theorem Kp.dl : ∀ {V : List (Int × Value)} {l : List (Int × List UInt8)}, Kp w F V l → Kp w F (dl V n) (dl l n)
  | [], [], _ => trivial
  | p :: V, q :: l, h => by
    obtain ⟨h1, h2, h3⟩ := h
    unfold Proofs.Ytbalhpffdgbdgaa.dl
    rw [h1]
    split
    · exact h3
    · exact ⟨h1, h2, Kp.dl h3⟩
  | [], _ :: _, h => h.elim
  | _ :: _, [], h => h.elim
theorem Kp.lk_none : ∀ {V : List (Int × Value)} {l : List (Int × List UInt8)}, Kp w F V l → lk l n = none → lk V n = none
  | [], [], _, _ => rfl
  | p :: V, q :: l, h, hn => by
    unfold lk at hn ⊢
    rw [h.1]
    split
    · next e => rw [if_pos e] at hn; cases hn
    · next e => rw [if_neg e] at hn; exact Kp.lk_none h.2.2 hn
  | [], _ :: _, h, _ => h.elim
  | _ :: _, [], h, _ => h.elim
theorem Kp.lk_some : ∀ {V : List (Int × Value)} {l : List (Int × List UInt8)}, Kp w F V l → lk l n = some x → ∃ v, lk V n = some v ∧ Pc w F v x
  | [], [], _, h => by cases h
  | p :: V, q :: l, h, hn => by
    unfold lk at hn ⊢
    rw [h.1]
    split
    · next e =>
      rw [if_pos e] at hn
      injection hn with hn
      exact ⟨p.2, rfl, hn ▸ h.2.1⟩
    · next e => rw [if_neg e] at hn; exact Kp.lk_some h.2.2 hn
  | [], _ :: _, h, _ => h.elim
  | _ :: _, [], h, _ => h.elim
theorem Kp.ds : ∀ {V : List (Int × Value)} {l : List (Int × List UInt8)}, Kp w F V l → Ds l → Ds V
  | [], [], _, _ => trivial
  | p :: V, q :: l, h, hd => ⟨by rw [h.1]; exact Kp.lk_none h.2.2 hd.1, Kp.ds h.2.2 hd.2⟩
  | [], _ :: _, h, _ => h.elim
  | _ :: _, [], h, _ => h.elim
end

/-- the cells of an order -/
def odc (m W e B : Nat) (A : Option Addr) (n c : Nat) : Array Value := #[.int .i64 (m : Int), .int .i64 (W : Int), .int .i64 (e : Int), .map (some B), .slice A n c]
/-- The block b holds an order with these fields; it, its map, its row and its messages lie in F. -/
def OdRaw (w : World) (F : Nat → Prop) (b m W e : Nat) (l : List (Int × List UInt8)) (r : List (List UInt8)) : Prop :=
  ∃ B V A c vs, w.heap[b]? = some (.cells (odc m W e B A r.length c) 46 (0, 0)) ∧ (MpR w B V ∧ Kp w F V l) ∧ (MidV 28 w A c vs ∧ Pcs w F vs r) ∧
    F b ∧ F B ∧ (∀ k, blk A = some k → F k) ∧ ∀ k, F k → k < w.heap.size
/-- The block b holds an order in the state s. -/
def OdP (w : World) (F : Nat → Prop) (b : Nat) (s : Od) : Prop := OdRaw w F b s.m s.W s.e s.k s.r ∧ s.Ok
/-- The order has come into the state s; nothing but it has turned. -/
def OdTurn (F : Nat → Prop) (b : Nat) (s : Od) (w w' : World) : Prop := OdP w' (more F w w') b s ∧ Only F w w'
section
variable {w w' : World} {F G : Nat → Prop} {b m W e B : Nat} {l : List (Int × List UInt8)} {r : List (List UInt8)} {s : Od} {A : Option Addr} {n c : Nat} {V : List (Int × Value)} {vs : List Value}
theorem odcell (h : w.heap[b]? = some (.cells (odc m W e B A n c) 46 (0, 0))) :
    w.cell? ⟨b, 0, none⟩ = some (.int .i64 (m : Int)) ∧ w.cell? ⟨b, 1, none⟩ = some (.int .i64 (W : Int)) ∧ w.cell? ⟨b, 2, none⟩ = some (.int .i64 (e : Int)) ∧ w.cell? ⟨b, 3, none⟩ = some (.map (some B)) ∧ w.cell? ⟨b, 4, none⟩ = some (.slice A n c) := by
  refine ⟨?_, ?_, ?_, ?_, ?_⟩ <;> rw [cell_of_row w b _ _ _ (0, 0) h] <;> rfl
theorem OdRaw.lt (h : OdRaw w F b m W e l r) : ∀ k, F k → k < w.heap.size := by obtain ⟨_, _, _, _, _, _, _, _, _, _, _, h⟩ := h; exact h
theorem OdRaw.only (h : OdRaw w F b m W e l r) (on : Only G w w') (hd : ∀ k, F k → ¬ G k) : OdRaw w' F b m W e l r := by
  obtain ⟨B, V, A, c, vs, h1, ⟨h2, h3⟩, ⟨h4, h5⟩, h6, h7, h8, h9⟩ := h
  exact ⟨B, V, A, c, vs, (on.block b (h9 b h6) (hd b h6)).trans h1, ⟨h2.only on (hd B h7), Kp.only on (fun k hk _ => hd k hk) (fun _ h => h) h3⟩, ⟨h4.only on (fun k hk => hd k (h8 k hk)), Pcs.only on (fun k hk _ => hd k hk) (fun _ h => h) h5⟩, h6, h7, h8, fun k hk => Nat.lt_of_lt_of_le (h9 k hk) on.size⟩
theorem OdRaw.drewN (h : OdRaw w F b m W e l r) (n : Nat) : OdRaw (w.drewN n) F b m W e l r :=
  h.only (G := fun _ => False) ⟨rfl, rfl, rfl, Nat.le_refl _, fun _ _ _ => rfl⟩ (fun _ _ h => h)
/-- the same in a greater set -/
theorem OdRaw.into (h : OdRaw w F b m W e l r) (hG : ∀ k, F k → G k) (hlt : ∀ k, G k → k < w.heap.size) : OdRaw w G b m W e l r := by
  obtain ⟨B, V, A, c, vs, h1, ⟨h2, h3⟩, ⟨h4, h5⟩, h6, h7, h8, h9⟩ := h
  exact ⟨B, V, A, c, vs, h1, ⟨h2, Kp.only (G := fun _ => False) (Only.refl _ _) (fun _ _ _ h => h) hG h3⟩, ⟨h4, Pcs.only (G := fun _ => False) (Only.refl _ _) (fun _ _ _ h => h) hG h5⟩, hG b h6, hG B h7, fun k hk => hG k (h8 k hk), hlt⟩
theorem OdRaw.more (h : OdRaw w' F b m W e l r) (hlt : ∀ k, F k → k < w.heap.size) (hs : w.heap.size ≤ w'.heap.size) : OdRaw w' (more F w w') b m W e l r := h.into (fun _ h => .inl h) (more_lt hlt hs)
theorem OdP.ok (h : OdP w F b s) : s.Ok := h.2
theorem OdP.lt (h : OdP w F b s) : ∀ k, F k → k < w.heap.size := h.1.lt
theorem OdP.only (h : OdP w F b s) (on : Only G w w') (hd : ∀ k, F k → ¬ G k) : OdP w' F b s := ⟨h.1.only on hd, h.2⟩
theorem OdP.drewN (h : OdP w F b s) (n : Nat) : OdP (w.drewN n) F b s := ⟨h.1.drewN n, h.2⟩
theorem OdTurn.of_same (h : OdP w' F b s) (on : Only F w w') (hlt : ∀ k, F k → k < w.heap.size) : OdTurn F b s w w' := ⟨⟨h.1.more hlt on.size, h.2⟩, on⟩
theorem OdTurn.refl (h : OdP w F b s) : OdTurn F b s w w := .of_same h (Only.refl _ _) h.lt
theorem OdTurn.from_drewN {n : Nat} (h : OdTurn F b s (w.drewN n) w') : OdTurn F b s w w' := ⟨h.1, ⟨h.2.os, h.2.tape, h.2.output, h.2.size, h.2.block⟩⟩
theorem OdTurn.drewN (h : OdTurn F b s w w') (n : Nat) : OdTurn F b s w (w'.drewN n) := ⟨⟨h.1.1.drewN n, h.1.2⟩, ⟨h.2.os, h.2.tape, h.2.output, h.2.size, h.2.block⟩⟩
/-- two turns, one behind the other -/
theorem OdTurn.trans {w1 w2 : World} {s1 s2 : Od} (hlt : ∀ k, F k → k < w.heap.size) (h : OdTurn F b s1 w w1) (h' : OdTurn (more F w w1) b s2 w1 w2) : OdTurn F b s2 w w2 := by
  have on : Only F w w2 := h.2.trans h'.2 (fun k hk hm => hm.elim id (fun h => by omega))
  have s1 := h.2.size
  have s2 := h'.2.size
  refine ⟨⟨h'.1.1.into (fun k hk => ?_) (more_lt hlt on.size), h'.1.2⟩, on⟩
  rcases hk with (hk | ⟨h1, h2⟩) | ⟨h1, h2⟩
  · exact .inl hk
  · exact .inr ⟨h1, Nat.lt_of_lt_of_le h2 s2⟩
  · exact .inr ⟨Nat.le_trans s1 h1, h2⟩
/-- blocks of other types are other blocks -/
theorem od_off (hb : w.heap[b]? = some (.cells (odc m W e B A n c) 46 (0, 0))) {T : TypeId} (hT : T ≠ 46) : ∀ k, F k → (∃ cur, w.heap[k]? = some (.cells cur T (0, 0))) → ¬ k = b := fun k _ h e => by
  obtain ⟨cur, h⟩ := h
  rw [e] at h
  exact types_apart hT h hb
theorem pcs_off_rows (hB : MidV 28 w A c vs) : ∀ k, F k → (∃ cur, w.heap[k]? = some (.cells cur 5 (0, 0))) → ¬ blk A = some k := fun k _ h e => by
  obtain ⟨cur, h⟩ := h
  obtain ⟨cur', h'⟩ := hB.type k e
  exact types_apart (by decide) h h'
theorem cells_off_map (hM : MpR w B V) {T : TypeId} : ∀ k, (∃ cur, w.heap[k]? = some (.cells cur T (0, 0))) → ¬ k = B := fun k h e => by
  obtain ⟨cur, h⟩ := h
  rw [e] at h
  exact hM.notCells h
/-- one field has turned; the map and the row are what they are -/
theorem od_set {m' W' e' B' : Nat} {A' : Option Addr} {n' c' : Nat} (hb : w.heap[b]? = some (.cells (odc m' W' e' B' A' n' c') 46 (0, 0))) (j : Nat) (u : Value)
    (hC : (odc m' W' e' B' A' n' c').setIfInBounds j u = odc m W e B A r.length c)
    (hM : MpR w B V) (hK : Kp w F V l) (hA : MidV 28 w A c vs) (hP : Pcs w F vs r)
    (hF : F b) (hFB : F B) (hFA : ∀ k, blk A = some k → F k) (hlt : ∀ k, F k → k < w.heap.size) :
    w.frozen? ⟨b, j, none⟩ = false ∧ OdRaw (w.setCell ⟨b, j, none⟩ u) F b m W e l r ∧ Only F w (w.setCell ⟨b, j, none⟩ u) := by
  have on := only_set w ⟨b, j, none⟩ u
  refine ⟨frozen_of_row w b j _ _ hb, ⟨B, V, A, c, vs, ?_, ⟨hM.only on (fun e => ?_), Kp.only on (od_off hb (by decide)) (fun _ h => h) hK⟩, ⟨hA.only on (fun k hk => ?_), Pcs.only on (od_off hb (by decide)) (fun _ h => h) hP⟩, hF, hFB, hFA, fun k hk => Nat.lt_of_lt_of_le (hlt k hk) on.size⟩, on.mono (fun k _ e => by rw [e]; exact hF)⟩
  · rw [← hC]
    exact heap_setCell_same w b j _ _ _ hb
  · exact hM.notCells (show w.heap[B]? = _ from by rw [show B = b from e]; exact hb)
  · exact od_off (F := F) hb (by decide) k (hFA k hk) (hA.type k hk)
theorem OdP.fresh (w : World) (m W : Int) : OdP ((w.alloc (.map #[] 0)).alloc (.cells (odc (Od.new m W).m (Od.new m W).W 0 w.heap.size none 0 0) 46)) (fun k => k = w.heap.size ∨ k = w.heap.size + 1) (w.heap.size + 1) (Od.new m W) := by
  have hs : (w.alloc (.map #[] 0)).heap.size = w.heap.size + 1 := by simp
  have hb := heap_alloc_new (w.alloc (.map #[] 0)) (.cells (odc (Od.new m W).m (Od.new m W).W 0 w.heap.size none 0 0) 46)
  rw [hs] at hb
  refine ⟨⟨w.heap.size, [], none, 0, [], hb, ⟨(MpR.made w).block (Below.heap_alloc _ _ _ (by rw [hs]; omega)), trivial⟩, ⟨MidV.nil _ _, trivial⟩, .inr rfl, .inl rfl, fun k hk => by simp [blk] at hk, fun k hk => ?_⟩, Od.new_ok m W⟩
  simp only [World.size_alloc] at *
  omega
end
theorem odLimit_calls (n a c : Int) (w : World) (ha : a ≤ c) : Calls Try.prog 20 #[.int .i64 n, .int .i64 a, .int .i64 c] w fun e w' => e = .returned (.int .i64 (min (max n a) c)) ∧ w' = w := by
  go_enter Try.func20, Try.ntmps20
  go_wp2
  all_goals
    go_ret
    exact ⟨ret_int (by omega), rfl⟩
theorem odNew_calls (m W : Int) (w : World) : Calls Try.prog 8 #[.int .i64 m, .int .i64 W] w fun e w' => e = .returned (.pointer (some ⟨w.heap.size + 1, 0, none⟩)) ∧ (w.alloc (.map #[] 0)).alloc (.cells (odc (Od.new m W).m (Od.new m W).W 0 w.heap.size none 0 0) 46) = w' := by
  have ok := Od.new_ok m W
  have L1 := fun v => odLimit_calls m 8 32768 v (by decide)
  have L2 := fun v => odLimit_calls W 1 (((Od.new m W).m : Int) / 8) v (by have := ok.w1; have := ok.w8; omega)
  rw [Od.new_m m W] at L1
  rw [Od.new_W] at L2
  have b1 := ok.m8
  have b2 := ok.m9
  clear ok
  generalize Od.new m W = s at *
  have hq : wrap64 ((s.m : Int) / 8) = (s.m : Int) / 8 := by unfold wrap64; omega
  have hmm := @run_makeMap Try.prog
  unfold odc
  go_enter Try.func8, Try.ntmps8
  go_wp2_with fail
  refine (L1 _).mono ?_
  rintro e w' ⟨rfl, rfl⟩
  go_wp2_with fail
  refine (L2 _).mono ?_
  rintro e w' ⟨rfl, rfl⟩
  go_wp2
  go_ret
  exact ⟨by simp, by simp⟩
section
variable {w : World} {F : Nat → Prop} {b : Nat} {s : Od}
theorem odNext_calls (h : OdP w F b s) : Calls Try.prog 16 #[.pointer (some ⟨b, 0, none⟩)] w fun e w' => e = .returned (.int .i64 (s.e : Int)) ∧ w' = w := by
  obtain ⟨⟨B, V, A, c, vs, hb, _⟩, _⟩ := h
  obtain ⟨c0, c1, c2, c3, c4⟩ := odcell hb
  clear hb c0 c1 c3 c4
  generalize s.e = m at *
  go_enter Try.func16, Try.ntmps16
  go_wp2
  go_ret
  exact ⟨rfl, rfl⟩
theorem odGap_calls (h : OdP w F b s) : Calls Try.prog 18 #[.pointer (some ⟨b, 0, none⟩)] w fun e w' => e = .returned (.bool s.gap) ∧ w' = w := by
  obtain ⟨⟨B, V, A, c, vs, hb, ⟨hM, hK⟩, _⟩, _⟩ := h
  obtain ⟨c0, c1, c2, c3, c4⟩ := odcell hb
  have LE := hM.len
  rw [hK.len] at LE
  have hg : s.gap = decide ((0 : Int) < (s.k.length : Int)) := by
    unfold Od.gap
    cases s.k with
    | nil => rfl
    | cons p l => simp
  rw [hg]
  clear hb c0 c1 c2 c4 hM hK hg
  generalize s.k.length = m at *
  go_enter Try.func18, Try.ntmps18
  go_wp2_with (at_len; refine wpList_len_run _ rfl _ _ rfl _ rfl _ (LE _) ?_)
  go_ret
  exact ⟨by simp, rfl⟩
theorem odClear_calls (h : OdP w F b s) : Calls Try.prog 14 #[.pointer (some ⟨b, 0, none⟩)] w fun e w' => e = .returned (.tuple #[]) ∧ OdP w' F b s.clear ∧ Only F w w' := by
  have okC := h.2.clear
  obtain ⟨⟨B, V, A, c, vs, hb, ⟨hM, hK⟩, ⟨hA, hP⟩, h6, h7, h8, h9⟩, ok⟩ := h
  obtain ⟨c0, c1, c2, c3, c4⟩ := odcell hb
  obtain ⟨w1, CR, hM1, on1⟩ := hM.clear
  have hbB : ¬ b = B := fun e => hM.notCells (e ▸ hb)
  have hb1 := (on1.block b (lt_of_block hb) hbB).trans hb
  obtain ⟨z2, raw, on2⟩ := od_set (F := F) (m := s.m) (W := s.W) (e := 0) (l := []) (r := s.r) hb1 2 (.int .i64 ((0 : Nat) : Int)) rfl hM1 trivial (hA.only on1 (fun k hk => cells_off_map hM k (hA.type k hk))) (Pcs.only on1 (fun k _ hk => cells_off_map hM k hk) (fun _ h => h) hP) h6 h7 h8 (fun k hk => Nat.lt_of_lt_of_le (h9 k hk) on1.size)
  have FI := Lib.hid (show OdP (w1.setCell ⟨b, 2, none⟩ (.int .i64 0)) F b s.clear ∧ Only F w (w1.setCell ⟨b, 2, none⟩ (.int .i64 0)) from ⟨⟨raw, okC⟩, (on1.mono (fun k _ e => by rw [e]; exact h7)).trans on2 (fun _ _ h => h)⟩)
  obtain ⟨k0, k1, k2, k3, k4⟩ := odcell hb1
  clear hb hM hK hA hP h6 h7 h8 h9 ok okC hM1 on1 hb1 raw on2 c0 c1 c2 c4 k0 k1 k3 k4
  generalize s.e = x at *
  go_enter Try.func14, Try.ntmps14
  go_wp2_with (first | (refine wpList_clear_run _ rfl _ _ rfl _ rfl _ _ (CR _) ?_) | go_in)
  go_end0
  exact ⟨rfl, FI.out⟩
end
end Go.Proofs.Ytbalhpffdgbdgaa

/- A reader of the reference in memory: its fields and its buffer; NewReader, Cut and ends. Condition: what was received is at most 1000 octets. -/
import Derived.Test.YtnogdlekijpdhaaFraMem
import Derived.Test.YtnogdlekijpdhaaOctRefUn
namespace Go.Proofs.Ytnogdlekijpdhaa
open Go.RowKit
open Fcs Oct Fra
set_option linter.unusedVariables false

/-- the cells of a reader of the reference -/
def rcells (M : Nat) (wide inn : Bool) (A : Option Addr) (m c n : Nat) (e lg : Bool) : Array Value := #[.int .i64 (M : Int), .bool wide, .bool inn, .slice A m c, .int .i64 (n : Int), .bool e, .bool lg]
def inn : St → Bool
  | none => false
  | _ => true
def esc? : St → Bool
  | some (some x) => x.1
  | _ => false
def lng : St → Bool
  | some none => true
  | _ => false
/-- the octets q, as they came, and their number n stand for the state -/
def RS : St → List UInt8 → Nat → Prop
  | none, q, n => True
  | some (some (e, acc)), q, n => (∀ r, un false [] (q ++ r) = un e acc r) ∧ (q.length = 0 ↔ (e = false ∧ acc.length = 0)) ∧ n = acc.length ∧ q.length ≤ 2 * acc.length + (if e then 1 else 0)
  | some none, q, n => q.length ≠ 0
/-- The block b holds a reader of the reference in the state s; it and its buffer lie in F. -/
def RR (w : World) (F : Nat → Prop) (b M : Nat) (wide : Bool) (s : St) : Prop :=
  ∃ A c q n, w.heap[b]? = some (.cells (rcells M wide (inn s) A q.length c n (esc? s) (lng s)) 48 (0, 0)) ∧ Own w 0 A c q ∧ RS s q n ∧ blk A ≠ some b ∧ F b ∧ (∀ k, blk A = some k → F k) ∧ ∀ k, F k → k < w.heap.size
theorem RR.only {F G : Nat → Prop} {w w' : World} {b M : Nat} {wide : Bool} {s : St} (h : RR w F b M wide s) (o : Only G w w') (hd : ∀ k, F k → ¬ G k) : RR w' F b M wide s := by
  obtain ⟨A, c, q, n, h1, h2, hq, h3, h4, h5, h6⟩ := h
  exact ⟨A, c, q, n, (o.block b (h6 b h4) (hd b h4)).trans h1, h2.only o (fun k hk => hd k (h5 k hk)), hq, h3, h4, h5, fun k hk => Nat.lt_of_lt_of_le (h6 k hk) o.size⟩

theorem rcell {w : World} {b M : Nat} {wide i : Bool} {A : Option Addr} {m c n : Nat} {e lg : Bool} {t : TypeId} (h : w.heap[b]? = some (.cells (rcells M wide i A m c n e lg) t (0, 0))) : w.cell? ⟨b, 0, none⟩ = some (.int .i64 (M : Int)) ∧ w.cell? ⟨b, 1, none⟩ = some (.bool wide) ∧ w.cell? ⟨b, 2, none⟩ = some (.bool i) ∧ w.cell? ⟨b, 3, none⟩ = some (.slice A m c) ∧ w.cell? ⟨b, 4, none⟩ = some (.int .i64 (n : Int)) ∧ w.cell? ⟨b, 5, none⟩ = some (.bool e) ∧ w.cell? ⟨b, 6, none⟩ = some (.bool lg) := by
  refine ⟨?_, ?_, ?_, ?_, ?_, ?_, ?_⟩ <;> rw [cell_of_row w b _ _ _ (0, 0) h] <;> rfl
theorem rset2 {w : World} {b M : Nat} {wide i : Bool} {A : Option Addr} {m c n : Nat} {e lg : Bool} {t : TypeId} (h : w.heap[b]? = some (.cells (rcells M wide i A m c n e lg) t (0, 0))) (i' : Bool) : (w.setCell ⟨b, 2, none⟩ (.bool i')).heap[b]? = some (.cells (rcells M wide i' A m c n e lg) t (0, 0)) := heap_setCell_same w b 2 _ t _ h
theorem rset3 {w : World} {b M : Nat} {wide i : Bool} {A : Option Addr} {m c n : Nat} {e lg : Bool} {t : TypeId} (h : w.heap[b]? = some (.cells (rcells M wide i A m c n e lg) t (0, 0))) (A' : Option Addr) (m' c' : Nat) : (w.setCell ⟨b, 3, none⟩ (.slice A' m' c')).heap[b]? = some (.cells (rcells M wide i A' m' c' n e lg) t (0, 0)) := heap_setCell_same w b 3 _ t _ h
theorem rset4 {w : World} {b M : Nat} {wide i : Bool} {A : Option Addr} {m c n : Nat} {e lg : Bool} {t : TypeId} (h : w.heap[b]? = some (.cells (rcells M wide i A m c n e lg) t (0, 0))) (n' : Nat) : (w.setCell ⟨b, 4, none⟩ (.int .i64 (n' : Int))).heap[b]? = some (.cells (rcells M wide i A m c n' e lg) t (0, 0)) := heap_setCell_same w b 4 _ t _ h
theorem rset5 {w : World} {b M : Nat} {wide i : Bool} {A : Option Addr} {m c n : Nat} {e lg : Bool} {t : TypeId} (h : w.heap[b]? = some (.cells (rcells M wide i A m c n e lg) t (0, 0))) (e' : Bool) : (w.setCell ⟨b, 5, none⟩ (.bool e')).heap[b]? = some (.cells (rcells M wide i A m c n e' lg) t (0, 0)) := heap_setCell_same w b 5 _ t _ h
theorem rset6 {w : World} {b M : Nat} {wide i : Bool} {A : Option Addr} {m c n : Nat} {e lg : Bool} {t : TypeId} (h : w.heap[b]? = some (.cells (rcells M wide i A m c n e lg) t (0, 0))) (l' : Bool) : (w.setCell ⟨b, 6, none⟩ (.bool l')).heap[b]? = some (.cells (rcells M wide i A m c n e l') t (0, 0)) := heap_setCell_same w b 6 _ t _ h

theorem cut_calls (n : Int) (w : World) : Calls Try.prog 20 #[.int .i64 n, .int .i64 1, .int .i64 65536] w fun e w' => e = .returned (.int .i64 (most n : Int)) ∧ w = w' := by
  have h2 := Lib.hid (most_int n)
  have hn : n < 1 ∨ 65536 < n ∨ (1 ≤ n ∧ n ≤ 65536) := by omega
  rcases hn with hn | hn | ⟨hn, hn'⟩
  all_goals
    go_enter Try.func20, Try.ntmps20
    go_wp2
    go_ret
    refine ⟨?_, rfl⟩
    rw [← h2.out]
    exact ret_int (by omega)
theorem newReader_calls (n : Int) (wide : Bool) (w : World) : Calls Try.prog 12 #[.int .i64 n, .bool wide] w fun e w' => e = .returned (.pointer (some ⟨w.heap.size, 0, none⟩)) ∧ w.alloc (.cells (rcells (most n) wide false none 0 0 0 false false) 48) = w' := by
  go_enter Try.func12, Try.ntmps12
  go_wp2_with fail
  refine (cut_calls n w).mono ?_
  rintro e w' ⟨rfl, rfl⟩
  go_wp2
  go_ret
  exact ⟨rfl, rfl⟩

set_option maxHeartbeats 1000000 in
theorem ends_calls (w : World) (F : Nat → Prop) (b M : Nat) (wide : Bool) (s : St) (h : RR w F b M wide s) (hacc : s.acc.length ≤ 1000) :
    Calls Try.prog 22 #[.pointer (some ⟨b, 0, none⟩)] w (Told (ends wide s) w) := by
  obtain ⟨A, c, q, n, hb, own, hq, _⟩ := h
  obtain ⟨_, c1, c2, c3, c4, c5, c6⟩ := rcell hb
  have hbs : b < w.heap.size := lt_of_block hb
  rcases st_cases s with rfl | ⟨acc, rfl⟩ | ⟨acc, rfl⟩ | rfl
  · have c2 : w.cell? ⟨b, 2, none⟩ = some (.bool false) := c2
    clear hb own hq c1 c3 c4 c5 c6
    go_enter Try.func22, Try.ntmps22
    go_wp2
    go_ret2
    exact told_none rfl (Below.refl _ _)
  · have c2 : w.cell? ⟨b, 2, none⟩ = some (.bool true) := c2
    have c5 : w.cell? ⟨b, 5, none⟩ = some (.bool false) := c5
    have c6 : w.cell? ⟨b, 6, none⟩ = some (.bool false) := c6
    have hacc : acc.length ≤ 1000 := hacc
    obtain ⟨hun, hz, hn, hql⟩ := hq
    by_cases h0 : q.length = 0
    · have hz0 := (hz.mp h0).2
      have HJ := Lib.hid (show ends wide (.rd false acc) = (0, []) by show judge wide acc = _; unfold judge; rw [if_pos hz0])
      rw [h0] at c3
      clear hb own hun hz h0 hz0 c1 c4 hql hn
      go_enter Try.func22, Try.ntmps22
      go_wp2
      go_ret2
      exact told_none HJ.out (Below.refl _ _)
    · have hza : acc.length ≠ 0 := fun e => h0 (hz.mpr ⟨rfl, e⟩)
      have u1 : un false [] q = (acc, 0) := by
        have := hun []
        rw [List.append_nil] at this
        exact this
      have hq' : ((q.length : Int) == 0) = false := beq_eq_false_iff_ne.mpr (by omega)
      have hq'' : (q.length == 0) = false := beq_eq_false_iff_ne.mpr h0
      have hql' : q.length ≤ 1048576 := by simp at hql; omega
      have US := refUnstuffOwn_calls A c q w own.rd hql'
      rw [u1] at US
      have KC := Lib.hid (show ∀ w2, Below w.heap.size w w2 → w2.cell? ⟨b, 1, none⟩ = some (.bool wide) from fun w2 bel => (bel.cell hbs).trans c1)
      have hs : ((if wide then 4 else 2 : Int)) = (sumN wide : Int) := by cases wide <;> rfl
      have cs : ∀ w, Calls Try.prog 23 #[.bool wide] w fun e w' => e = .returned (.int .i64 (sumN wide : Int)) ∧ w = w' := fun w => (tail_calls wide w).mono fun _ _ h => ⟨by rw [← hs]; exact h.1, h.2⟩
      have hsn : sumN wide ≤ 4 := by cases wide <;> decide
      clear hb hun hz h0 c4 hql hn u1 own hs c1
      by_cases h1 : acc.length ≤ sumN wide
      · have HJ := Lib.hid (show ends wide (.rd false acc) = (2, []) by show judge wide acc = _; unfold judge; rw [if_neg hza, if_pos h1])
        have h1' : (acc.length : Int) < 1 + (sumN wide : Int) := by omega
        clear h1 hza
        go_enter Try.func22, Try.ntmps22
        go_wp2_with fail
        refine US.mono ?_
        rintro e w2 ⟨B, d, rfl, o2, bel⟩
        clear US
        have d1 := KC.out w2 bel
        clear o2
        go_wp2_with fail
        refine (cs w2).mono ?_
        rintro e w3 ⟨rfl, rfl⟩
        go_wp2
        go_ret2
        exact told_none HJ.out bel
      · have h1' : ¬ (acc.length : Int) < 1 + (sumN wide : Int) := by omega
        by_cases h2 : chkE wide acc ≠ 0
        · have HJ := Lib.hid (show ends wide (.rd false acc) = (4, []) by show judge wide acc = _; unfold judge; rw [if_neg hza, if_neg h1, if_pos h2])
          have hE : (chkE wide acc == 0) = false := beq_eq_false_iff_ne.mpr h2
          clear h1 hza h2
          go_enter Try.func22, Try.ntmps22
          go_wp2_with fail
          refine US.mono ?_
          rintro e w2 ⟨B, d, rfl, o2, bel⟩
          clear US
          have d1 := KC.out w2 bel
          have ck := refCheckOwn_calls wide B d acc w2 o2.rd hacc o2.cap.1 o2.cap.2
          clear o2
          go_wp2_with fail
          refine (cs w2).mono ?_
          rintro e w3 ⟨rfl, rfl⟩
          go_wp2_with fail
          refine ck.mono ?_
          rintro e w3 ⟨B2, d2, rfl, o3, bel3⟩
          clear ck
          go_wp2
          go_ret2
          exact told_none HJ.out (bel.trans (bel3.mono bel.size))
        · have hE : chkE wide acc = 0 := by simpa using h2
          have HJ := Lib.hid (show ends wide (.rd false acc) = (1, chkB wide acc) by show judge wide acc = _; unfold judge; rw [if_neg hza, if_neg h1, if_neg h2])
          clear h1 hza h2
          go_enter Try.func22, Try.ntmps22
          go_wp2_with fail
          refine US.mono ?_
          rintro e w2 ⟨B, d, rfl, o2, bel⟩
          clear US
          have d1 := KC.out w2 bel
          have ck := refCheckOwn_calls wide B d acc w2 o2.rd hacc o2.cap.1 o2.cap.2
          clear o2
          go_wp2_with fail
          refine (cs w2).mono ?_
          rintro e w3 ⟨rfl, rfl⟩
          go_wp2_with fail
          refine ck.mono ?_
          rintro e w3 ⟨B2, d2, rfl, o3, bel3⟩
          clear ck
          have O3 := Lib.hid (own_mono o3 bel.size)
          clear o3
          go_wp2
          go_ret2
          exact ⟨B2, d2, by rw [HJ.out]; rfl, by rw [HJ.out]; exact O3.out, bel.trans (bel3.mono bel.size)⟩
  · have c2 : w.cell? ⟨b, 2, none⟩ = some (.bool true) := c2
    have c5 : w.cell? ⟨b, 5, none⟩ = some (.bool true) := c5
    have c6 : w.cell? ⟨b, 6, none⟩ = some (.bool false) := c6
    obtain ⟨_, hz, _, _⟩ := hq
    have h0 : q.length ≠ 0 := fun e => by have := (hz.mp e).1; cases this
    have hq' : ((q.length : Int) == 0) = false := beq_eq_false_iff_ne.mpr (by omega)
    have hq'' : (q.length == 0) = false := beq_eq_false_iff_ne.mpr h0
    clear hb own hz h0 c1 c4
    go_enter Try.func22, Try.ntmps22
    go_wp2
    go_ret2
    exact told_none rfl (Below.refl _ _)
  · have c2 : w.cell? ⟨b, 2, none⟩ = some (.bool true) := c2
    have c6 : w.cell? ⟨b, 6, none⟩ = some (.bool true) := c6
    have h0 : q.length ≠ 0 := hq
    have hq' : ((q.length : Int) == 0) = false := beq_eq_false_iff_ne.mpr (by omega)
    have hq'' : (q.length == 0) = false := beq_eq_false_iff_ne.mpr h0
    clear hb own hq h0 c1 c4 c5
    go_enter Try.func22, Try.ntmps22
    go_wp2
    go_ret2
    exact told_none rfl (Below.refl _ _)
end Go.Proofs.Ytnogdlekijpdhaa

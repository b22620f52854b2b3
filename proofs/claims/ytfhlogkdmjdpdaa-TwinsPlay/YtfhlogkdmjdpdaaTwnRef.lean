/- A table of the reference: what it holds, plainly and in memory; New, Clear. No condition. -/
import Derived.Test.YtfhlogkdmjdpdaaTwnMem
import Derived.Test.YtfhlogkdmjdpdaaNumOwn
import Derived.Deep.Cut
namespace Go.Proofs.Ytfhlogkdmjdpdaa
open Go.RowKit
set_option linter.unusedVariables false

/-- the numbers of L are those that the table m holds -/
structure RL (m : Tb) (L : List Nat) : Prop where
  all : ∀ x ∈ L, x < 4294967296 ∧ m.behind x < m.S
  arr : ∀ d, d < m.S → (m.arr d = true ↔ (m.hi + 4294967296 - d) % 4294967296 ∈ L)
/-- what stays within S of n -/
def fi (n S : Nat) (L : List Nat) : List Nat := L.filter fun x => decide ((n + 4294967296 - x) % 4294967296 < S)
section
variable {m : Tb} {L : List Nat} {n : Nat}
theorem RL.first (h : m.ok) (hn : n < 4294967296) : RL (m.first n) [n] := by
  have hs := h.size
  refine ⟨fun x hx => ?_, fun d hd => ?_⟩
  · rw [List.mem_singleton.1 hx]
    refine ⟨hn, ?_⟩
    show (n + 4294967296 - n) % 4294967296 < m.S
    omega
  · have hd : d < m.S := hd
    show (d == 0) = true ↔ (n + 4294967296 - d) % 4294967296 ∈ [n]
    rw [List.mem_singleton, beq_iff_eq]
    omega
theorem RL.up (h : m.ok) (r : RL m L) (hn : n < 4294967296) (hk : m.ahead n < 2147483648) (h0 : m.ahead n ≠ 0) : RL (m.up n) (fi n m.S L ++ [n]) := by
  have hs := h.size
  have hh := h.hi
  refine ⟨fun x hx => ?_, fun d hd => ?_⟩
  · show x < 4294967296 ∧ (n + 4294967296 - x) % 4294967296 < m.S
    rcases List.mem_append.1 hx with hx | hx
    · obtain ⟨h1, h2⟩ := List.mem_filter.1 hx
      exact ⟨(r.all x h1).1, by simpa using h2⟩
    · rw [List.mem_singleton.1 hx]
      exact ⟨hn, by omega⟩
  · have hd : d < m.S := hd
    show (if d = 0 then true else if d < m.ahead n then false else m.arr (d - m.ahead n)) = true ↔ (n + 4294967296 - d) % 4294967296 ∈ fi n m.S L ++ [n]
    rw [List.mem_append, List.mem_singleton]
    by_cases hd0 : d = 0
    · subst hd0
      rw [if_pos rfl]
      exact ⟨fun _ => .inr (by omega), fun _ => rfl⟩
    · rw [if_neg hd0]
      have hne : ¬ (n + 4294967296 - d) % 4294967296 = n := by omega
      have hmem : (n + 4294967296 - d) % 4294967296 ∈ fi n m.S L ↔ (n + 4294967296 - d) % 4294967296 ∈ L := by
        unfold fi
        rw [List.mem_filter]
        refine ⟨fun h => h.1, fun h => ⟨h, decide_eq_true ?_⟩⟩
        omega
      rw [hmem]
      by_cases hdk : d < m.ahead n
      · rw [if_pos hdk]
        refine ⟨fun e => (by cases e), fun e => ?_⟩
        rcases e with e | e
        · exfalso
          have h2 := (r.all _ e).2
          unfold Tb.ahead at *
          unfold Tb.behind at h2
          omega
        · exact absurd e hne
      · rw [if_neg hdk, r.arr (d - m.ahead n) (by omega)]
        have e : (m.hi + 4294967296 - (d - m.ahead n)) % 4294967296 = (n + 4294967296 - d) % 4294967296 := by
          unfold Tb.ahead at *
          omega
        rw [e]
        exact ⟨fun h => .inl h, fun h => h.resolve_right hne⟩
theorem RL.at_ (h : m.ok) (r : RL m L) (hn : n < 4294967296) (hb : m.behind n < m.S) : m.arr (m.behind n) = true ↔ n ∈ L := by
  rw [r.arr _ hb]
  have hh := h.hi
  have e : (m.hi + 4294967296 - m.behind n) % 4294967296 = n := by
    unfold Tb.behind at *
    omega
  rw [e]
theorem RL.mark (h : m.ok) (r : RL m L) (hn : n < 4294967296) (hb : m.behind n < m.S) : RL (m.mark (m.behind n)) (L ++ [n]) := by
  have hs := h.size
  have hh := h.hi
  refine ⟨fun x hx => ?_, fun d hd => ?_⟩
  · rcases List.mem_append.1 hx with hx | hx
    · exact r.all x hx
    · rw [List.mem_singleton.1 hx]
      exact ⟨hn, hb⟩
  · have hd : d < m.S := hd
    show (if d = m.behind n then true else m.arr d) = true ↔ (m.hi + 4294967296 - d) % 4294967296 ∈ L ++ [n]
    rw [List.mem_append, List.mem_singleton]
    by_cases e : d = m.behind n
    · rw [if_pos e]
      refine ⟨fun _ => .inr ?_, fun _ => rfl⟩
      unfold Tb.behind at *
      omega
    · rw [if_neg e, r.arr d hd]
      refine ⟨fun h => .inl h, fun h => h.resolve_right ?_⟩
      unfold Tb.behind at *
      omega
theorem RL.same (h : m.ok) (r : RL m L) (hk : m.kn = true) (hn : n < 4294967296) (hb : m.behind n < m.S) (hm : n ∈ L) : m.mark (m.behind n) = m := by
  have ha := (r.at_ h hn hb).2 hm
  obtain ⟨S, kn, hi, arr⟩ := m
  have hk : kn = true := hk
  subst hk
  unfold Tb.mark
  congr
  funext d
  split
  · rename_i e
    rw [e]
    exact ha.symm
  · rfl
theorem fi_take (n S : Nat) (L : List Nat) {i : Nat} (hi : i < L.length) : fi n S (L.take (i + 1)) = if (n + 4294967296 - L.getD i 0) % 4294967296 < S then fi n S (L.take i) ++ [L.getD i 0] else fi n S (L.take i) := by
  have e : L.getD i 0 = L[i] := by simp [hi]
  rw [List.take_succ_eq_append_getElem hi, e]
  unfold fi
  rw [List.filter_append]
  by_cases h : (n + 4294967296 - L[i]) % 4294967296 < S
  · rw [if_pos h]
    simp [h]
  · rw [if_neg h]
    simp [h]
theorem fi_len (n S : Nat) (L : List Nat) : (fi n S L).length ≤ L.length := List.length_filter_le _ _
end
/-- the cells of a table of the reference -/
def rcells (S : Nat) (kn : Bool) (hi : Nat) (A : Option Addr) (n c : Nat) : Array Value := #[.int .i64 (S : Int), .bool kn, .int .u32 (hi : Int), .slice A n c]
section
variable {w : World} {b S hi : Nat} {kn : Bool} {A : Option Addr} {n c : Nat} {t : TypeId}
theorem rcell (h : w.heap[b]? = some (.cells (rcells S kn hi A n c) t (0, 0))) :
    w.cell? ⟨b, 0, none⟩ = some (.int .i64 (S : Int)) ∧ w.cell? ⟨b, 1, none⟩ = some (.bool kn) ∧ w.cell? ⟨b, 2, none⟩ = some (.int .u32 (hi : Int)) ∧ w.cell? ⟨b, 3, none⟩ = some (.slice A n c) := by
  refine ⟨?_, ?_, ?_, ?_⟩ <;> rw [cell_of_row w b _ _ _ (0, 0) h] <;> rfl
theorem rset_kn (h : w.heap[b]? = some (.cells (rcells S kn hi A n c) t (0, 0))) (x : Bool) : (w.setCell ⟨b, 1, none⟩ (.bool x)).heap[b]? = some (.cells (rcells S x hi A n c) t (0, 0)) := heap_setCell_same w b 1 _ t _ h
theorem rset_hi (h : w.heap[b]? = some (.cells (rcells S kn hi A n c) t (0, 0))) (x : Nat) : (w.setCell ⟨b, 2, none⟩ (.int .u32 (x : Int))).heap[b]? = some (.cells (rcells S kn x A n c) t (0, 0)) := heap_setCell_same w b 2 _ t _ h
theorem rset_came (h : w.heap[b]? = some (.cells (rcells S kn hi A n c) t (0, 0))) (A' : Option Addr) (n' c' : Nat) : (w.setCell ⟨b, 3, none⟩ (.slice A' n' c')).heap[b]? = some (.cells (rcells S kn hi A' n' c') t (0, 0)) := heap_setCell_same w b 3 _ t _ h
end
/-- The block b holds the table m of the reference, its row from base on, with at most N numbers. -/
structure RT (w : World) (base b N : Nat) (m : Tb) (A : Option Addr) (c hi : Nat) (L : List Nat) : Prop where
  cells : w.heap[b]? = some (.cells (rcells m.S m.kn hi A L.length c) 42 (0, 0))
  own : NOwn 30 .u32 w base A c L
  low : b < base
  few : L.length ≤ N
  ok : m.ok
  hib : hi < 4294967296
  yes : m.kn = true → hi = m.hi ∧ RL m L
  no : m.kn = false → L = []
def RX (w : World) (base b N : Nat) (m : Tb) : Prop := ∃ A c hi L, RT w base b N m A c hi L
theorem RX.only {F : Nat → Prop} {w w' : World} {base b N : Nat} {m : Tb} (h : RX w base b N m) (o : Only F w w') (hF : ∀ k, F k → k < base) (hb : ¬ F b) : RX w' base b N m := by
  obtain ⟨A, c, hi, L, h⟩ := h
  refine ⟨A, c, hi, L, (o.block b (lt_of_block h.cells) hb).trans h.cells, h.own.only o (fun i hi hf => ?_), h.low, h.few, h.ok, h.hib, h.yes, h.no⟩
  have := h.own.blk_ge i hi
  have := hF i hf
  omega
theorem RX.drewN {w : World} {base b N : Nat} {m : Tb} (h : RX w base b N m) (j : Nat) : RX (w.drewN j) base b N m := by
  obtain ⟨A, c, hi, L, h⟩ := h
  exact ⟨A, c, hi, L, h.cells, h.own, h.low, h.few, h.ok, h.hib, h.yes, h.no⟩
theorem cutR_calls (n a b : Int) (hab : a ≤ b) (w : World) : Calls Try.prog 15 #[.int .i64 n, .int .i64 a, .int .i64 b] w fun e w' => e = .returned (.int .i64 (min (max n a) b)) ∧ w' = w := by
  have hn : n < a ∨ (a ≤ n ∧ b < n) ∨ (a ≤ n ∧ n ≤ b) := by omega
  have hc := Lib.hid (show (n < a → min (max n a) b = a) ∧ (a ≤ n → b < n → min (max n a) b = b) ∧ (a ≤ n → n ≤ b → min (max n a) b = n) by omega)
  rcases hn with hn | ⟨hn, hn'⟩ | ⟨hn, hn'⟩
  all_goals
    go_enter Try.func15, Try.ntmps15
    go_wp2
    go_ret
    refine ⟨?_, rfl⟩
    first
    | (rw [hc.out.1 hn]; rfl)
    | (rw [hc.out.2.1 hn hn']; rfl)
    | (rw [hc.out.2.2 hn hn']; rfl)
theorem rnew_calls (n : Int) (w : World) : Calls Try.prog 10 #[.int .i64 n] w fun e w' => e = .returned (.pointer (some ⟨w.heap.size, 0, none⟩)) ∧ RX w' (w.heap.size + 1) w.heap.size 0 (tnew n) ∧ Below w.heap.size w w' ∧ w'.heap.size = w.heap.size + 1 := by
  have cc := fun w => cutR_calls n 1 4096 (by decide) w
  rw [tsz_int] at cc
  have FIN := Lib.hid (show RX (w.alloc (.cells (rcells (tsz n) false 0 none 0 0) 42)) (w.heap.size + 1) w.heap.size 0 (tnew n) ∧ Below w.heap.size w (w.alloc (.cells (rcells (tsz n) false 0 none 0 0) 42)) ∧ (w.alloc (.cells (rcells (tsz n) false 0 none 0 0) 42)).heap.size = w.heap.size + 1 from
    ⟨⟨none, 0, 0, [], heap_alloc_new w _, NOwn.nil _ _ _ _, by omega, Nat.le_refl _, tnew_ok n, by decide, fun e => (by cases e), fun _ => rfl⟩, (Below.refl _ _).alloc (Nat.le_refl _) _, by simp⟩)
  unfold rcells at FIN
  generalize tsz n = s at *
  go_enter Try.func10, Try.ntmps10
  go_wp2_with fail
  refine (cc w).mono ?_
  rintro e w' ⟨rfl, rfl⟩
  go_wp2
  go_ret
  exact ⟨rfl, FIN.out⟩
theorem rclear_calls {w : World} {base b N : Nat} {m : Tb} (h : RX w base b N m) : Calls Try.prog 13 #[.pointer (some ⟨b, 0, none⟩)] w fun e w' => e = .returned (.tuple #[]) ∧ RX w' base b N m.clear ∧ Only (fun k => k = b) w w' := by
  obtain ⟨A, c, hi, L, h⟩ := h
  have c1 := (rcell h.cells).2.1
  have z1 := frozen_of_row w b 1 _ _ h.cells
  have k1 := rset_kn h.cells false
  have c3 := (rcell k1).2.2.2
  have z3 := frozen_of_row _ b 3 _ _ k1
  have FIN := Lib.hid (show RX ((w.setCell ⟨b, 1, none⟩ (.bool false)).setCell ⟨b, 3, none⟩ (.slice none 0 0)) base b N m.clear ∧ Only (fun k => k = b) w ((w.setCell ⟨b, 1, none⟩ (.bool false)).setCell ⟨b, 3, none⟩ (.slice none 0 0)) from
    ⟨⟨none, 0, hi, [], rset_came k1 none 0 0, NOwn.nil _ _ _ _, h.low, Nat.zero_le _, Tb.clear_ok h.ok, h.hib, fun e => (by cases e), fun _ => rfl⟩, only_put (only_put (Only.refl _ w) _ _) _ _⟩)
  clear h k1
  go_enter Try.func13, Try.ntmps13
  go_wp2
  go_end0
  exact ⟨rfl, FIN.out⟩
end Go.Proofs.Ytfhlogkdmjdpdaa

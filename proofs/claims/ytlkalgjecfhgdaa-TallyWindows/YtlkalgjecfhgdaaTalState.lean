/- Two windows of the program and one of the reference side by side; a slice of ints, of bools that comes in. Condition: the windows keep 1 to 1000 events. -/
import Derived.Test.YtlkalgjecfhgdaaTalRefNote
import Derived.Test.YtlkalgjecfhgdaaTalAlive
namespace Go.Proofs.Ytlkalgjecfhgdaa
open Go.RowKit
set_option linter.unusedVariables false

/-- the places of a window of N that holds the events L -/
def rep (N : Nat) (L : List Bool) : List Nat := List.replicate (N - L.length) 0 ++ L.map code
theorem rep_nil (N : Nat) : rep N [] = List.replicate N 0 := by simp [rep]
theorem gs_rep (N : Nat) (L : List Bool) : gs (rep N L) = gl L := by unfold rep; rw [gs_app, gs_zero, Int.zero_add]; rfl
theorem bs_rep (N : Nat) (L : List Bool) : bs (rep N L) = bl L := by unfold rep; rw [bs_app, bs_zero, Int.zero_add]; rfl
theorem nx_length {N : Nat} {L : List Bool} (h : L.length ≤ N) (ok : Bool) : (nx N L ok).length ≤ N := by
  unfold nx
  split <;> simp <;> omega
theorem rep_step {N : Nat} {L : List Bool} (hN : 1 ≤ N) (h : L.length ≤ N) (ok : Bool) : ∃ old q, rep N L = old :: q ∧ q ++ [code ok] = rep N (nx N L ok) := by
  by_cases hf : N < L.length + 1
  · have hl : L.length = N := by omega
    obtain ⟨x, L', rfl⟩ := List.exists_cons_of_ne_nil (l := L) (by rintro rfl; simp at hl; omega)
    refine ⟨code x, L'.map code, ?_, ?_⟩
    · unfold rep
      rw [show N - (x :: L').length = 0 by omega]
      rfl
    · have e : nx N (x :: L') ok = L' ++ [ok] := by unfold nx; rw [if_pos hf]; rfl
      rw [e]
      unfold rep
      rw [show N - (L' ++ [ok]).length = 0 by simp at hl ⊢; omega]
      simp
  · refine ⟨0, List.replicate (N - L.length - 1) 0 ++ L.map code, ?_, ?_⟩
    · unfold rep
      rw [show N - L.length = (N - L.length - 1) + 1 by omega, List.replicate_succ]
      rfl
    · unfold nx
      rw [if_neg hf]
      unfold rep
      rw [show N - (L ++ [ok]).length = N - L.length - 1 by simp; omega]
      simp

/-- Two windows of the program at p and p + 1, one of the reference at p + 2: what they hold; what was there before stands. -/
structure St (w v : World) (p N : Nat) (L L2 : List Bool) : Prop where
  size : 1 ≤ N ∧ N ≤ 1000
  one : PW v p N (rep N L)
  two : ∃ q, PW v (p + 1) 2 q
  three : RW v (p + 3) (p + 2) N L2
  short : L.length ≤ N
  bel : Below w.heap.size w v
  base : w.heap.size ≤ p
  room : p + 3 ≤ v.heap.size
theorem PW.len {w : World} {b n : Nat} {q : List Nat} (h : PW w b n q) : q.length = n := by
  obtain ⟨_, _, _, _, _, h, _⟩ := h
  exact h
section
variable {w v : World} {p N : Nat} {L L2 : List Bool}
theorem St.noteO (h : St w v p N L L2) (ok : Bool) : Calls Try.prog 9 #[.pointer (some ⟨p + 1, 0, none⟩), .bool ok] v fun e v' => e = .returned (.tuple #[]) ∧ St w v' p N L L2 := by
  obtain ⟨q, hq⟩ := h.two
  obtain ⟨old, q', rfl⟩ := List.exists_cons_of_ne_nil (l := q) (by intro e; have := hq.len; rw [e] at this; cases this)
  refine (note_calls hq (by decide) ok).mono ?_
  rintro e v' ⟨rfl, h1, on⟩
  exact ⟨rfl, h.size, h.one.only on (by omega), ⟨_, h1⟩, h.three.only on (fun k hk => by omega) (by omega), h.short, h.bel.trans (on.below (fun k hk => by have := h.base; omega) h.bel.size), h.base, Nat.le_trans h.room on.size⟩
theorem St.noteW (h : St w v p N L L2) (ok : Bool) : Calls Try.prog 9 #[.pointer (some ⟨p, 0, none⟩), .bool ok] v fun e v' => e = .returned (.tuple #[]) ∧ St w v' p N (nx N L ok) L2 := by
  obtain ⟨old, q, h1, h2⟩ := rep_step h.size.1 h.short ok
  have hp := h.one
  rw [h1] at hp
  refine (note_calls hp h.size.2 ok).mono ?_
  rintro e v' ⟨rfl, h3, on⟩
  rw [h2] at h3
  exact ⟨rfl, h.size, h3, h.two.imp fun q hq => hq.only on (by omega), h.three.only on (fun k hk => by omega) (by omega), nx_length h.short ok, h.bel.trans (on.below (fun k hk => by have := h.base; omega) h.bel.size), h.base, Nat.le_trans h.room on.size⟩
theorem St.clearW (h : St w v p N L L2) : Calls Try.prog 10 #[.pointer (some ⟨p, 0, none⟩)] v fun e v' => e = .returned (.tuple #[]) ∧ St w v' p N [] L2 := by
  refine (clear_calls h.one h.size).mono ?_
  rintro e v' ⟨rfl, h3, on⟩
  rw [← rep_nil] at h3
  exact ⟨rfl, h.size, h3, h.two.imp fun q hq => hq.only on (by omega), h.three.only on (fun k hk => by omega) (by omega), Nat.zero_le _, h.bel.trans (on.below (fun k hk => by have := h.base; omega) h.bel.size), h.base, Nat.le_trans h.room on.size⟩
theorem St.noteR (h : St w v p N L L2) (ok : Bool) : Calls Try.prog 12 #[.pointer (some ⟨p + 2, 0, none⟩), .bool ok] v fun e v' => e = .returned (.tuple #[]) ∧ St w v' p N L (nx N L2 ok) := by
  refine (refNote_calls h.three h.size h.room ok).mono ?_
  rintro e v' ⟨rfl, h3, on⟩
  exact ⟨rfl, h.size, h.one.only on (by omega), h.two.imp fun q hq => hq.only on (by omega), h3, h.short, h.bel.trans (on.below (fun k hk => by have := h.base; omega) h.bel.size), h.base, Nat.le_trans h.room on.size⟩
theorem St.clearR (h : St w v p N L L2) : Calls Try.prog 11 #[.pointer (some ⟨p + 2, 0, none⟩)] v fun e v' => e = .returned (.tuple #[]) ∧ St w v' p N L [] := by
  refine (refClear_calls h.three).mono ?_
  rintro e v' ⟨rfl, h3, on⟩
  exact ⟨rfl, h.size, h.one.only on (by omega), h.two.imp fun q hq => hq.only on (by omega), h3, h.short, h.bel.trans (on.below (fun k hk => by have := h.base; omega) h.bel.size), h.base, Nat.le_trans h.room on.size⟩
theorem St.sumW (h : St w v p N L L2) : Calls Try.prog 13 #[.pointer (some ⟨p, 0, none⟩)] v fun e v' => e = .returned (cx (gl L) (bl L)) ∧ v' = v := by
  have := sum_calls h.one
  rw [gs_rep, bs_rep] at this
  exact this
theorem St.sumR (h : St w v p N L L2) : Calls Try.prog 14 #[.pointer (some ⟨p + 2, 0, none⟩)] v fun e v' => e = .returned (cx (gl L2) (bl L2)) ∧ ∃ m, v' = v.drewN m := refSum_calls h.three h.size.2
theorem St.drewN (h : St w v p N L L2) (m : Nat) : St w (v.drewN m) p N L L2 :=
  ⟨h.size, h.one, h.two, h.three, h.short, ⟨h.bel.os, h.bel.tape, h.bel.output, h.bel.size, h.bel.block⟩, h.base, h.room⟩
end
/-- three new windows -/
theorem St.start {w W : World} (hb : Below w.heap.size w W) {p N : Nat} (hp : p = W.heap.size) (hN : 1 ≤ N ∧ N ≤ 1000) :
    St w (((W.alloc (.cells (zcells (N : Int)) 44)).alloc (.cells (zcells ((2 : Nat) : Int)) 44)).alloc (.cells (vcells N none 0 0) 47)) p N [] [] := by
  subst hp
  have e1 : ∀ (V : World) (o : Obj), (V.alloc o).heap.size = V.heap.size + 1 := fun V o => by simp
  have b1 := fun (V : World) (o : Obj) => (Below.refl V.heap.size V).alloc (Nat.le_refl _) o
  have hW := hb.size
  refine ⟨hN, ?_, ?_, ?_, Nat.zero_le _, ?_, hb.size, by rw [e1, e1, e1]; omega⟩
  · rw [rep_nil]
    have h0 : PW (W.alloc (.cells (zcells (N : Int)) 44)) W.heap.size N (List.replicate N 0) := PW.empty hN.1 hN.2 (heap_alloc_new W _)
    exact (h0.only (Only.of_below (fun _ => False) (b1 _ _)) (fun h => h)).only (Only.of_below (fun _ => False) (b1 _ _)) (fun h => h)
  · have h0 : PW ((W.alloc (.cells (zcells (N : Int)) 44)).alloc (.cells (zcells ((2 : Nat) : Int)) 44)) (W.alloc (.cells (zcells (N : Int)) 44)).heap.size 2 (List.replicate 2 0) := PW.empty (by decide) (by decide) (heap_alloc_new _ _)
    rw [e1] at h0
    exact ⟨_, h0.only (Only.of_below (fun _ => False) (b1 _ _)) (fun h => h)⟩
  · refine ⟨none, 0, ?_, RdB.nil _ _, fun _ => ⟨rfl, rfl⟩, Nat.zero_le _, by omega, fun k hk => by cases hk⟩
    have := heap_alloc_new ((W.alloc (.cells (zcells (N : Int)) 44)).alloc (.cells (zcells ((2 : Nat) : Int)) 44)) (.cells (vcells N none 0 0) 47)
    rw [e1, e1] at this
    exact this
  · exact ((hb.alloc hW _).alloc (by rw [e1]; omega) _).alloc (by rw [e1, e1]; omega) _

/-- The slice value at A, of l.length elements, reads as the ints l. -/
def RdI (w : World) (A : Option Addr) (l : List Int) : Prop :=
  l ≠ [] → ∃ b off, A = some ⟨b, off, none⟩ ∧ ∀ j, j < l.length → w.cell? ⟨b, off + j, none⟩ = some (.int .i64 (l.getD j 0))
theorem RdI.at_ {w : World} {A : Option Addr} {l : List Int} (h : RdI w A l) {k : Nat} (hk : k < l.length) :
    ∃ b off, A = some ⟨b, off, none⟩ ∧ b < w.heap.size ∧ w.cell? ⟨b, off + k, none⟩ = some (.int .i64 (l.getD k 0)) := by
  obtain ⟨b, off, e, hc⟩ := h (by rintro rfl; simp at hk)
  exact ⟨b, off, e, World.block_lt_of_cell? w _ (hc k hk), hc k hk⟩
theorem RdI.below {w w' : World} {A : Option Addr} {l : List Int} (h : RdI w A l) (o : Below w.heap.size w w') : RdI w' A l := fun hl => by
  obtain ⟨b, off, e, hc⟩ := h hl
  exact ⟨b, off, e, fun j hj => (o.cell (World.block_lt_of_cell? w _ (hc j hj))).trans (hc j hj)⟩
theorem RdI.of_row {w : World} {a : Option Addr} {len cap : Nat} {zs : List Int}
    (h : (a = none ∧ len = 0 ∧ cap = 0 ∧ zs = []) ∨ ∃ x, a = some x ∧ len ≤ cap ∧ cap ≤ maxLen ∧ zs.length = cap ∧ (∀ i, i < zs.length → w.cell? (x.add i) = some (.int .i64 (zs.getD i 0))) ∧ ∀ n ∈ zs, (Lit.int .i64 n).wf = true) :
    ∃ l : List Int, l.length = len ∧ len ≤ cap ∧ cap ≤ maxLen ∧ RdI w a l := by
  rcases h with ⟨rfl, rfl, rfl, rfl⟩ | ⟨x, rfl, hl, hm, hz, hc, hw⟩
  · exact ⟨[], rfl, Nat.le_refl _, by decide, fun h => absurd rfl h⟩
  · refine ⟨zs.take len, by simp; omega, hl, hm, fun hne => ?_⟩
    have hpos : 0 < zs.length := by
      rcases Nat.eq_zero_or_pos zs.length with h0 | h0
      · exact absurd (by simp [List.eq_nil_of_length_eq_zero h0]) hne
      · exact h0
    obtain ⟨b, off, rfl, hcell⟩ := ints_at hc hpos
    refine ⟨b, off, rfl, fun j hj => ?_⟩
    simp at hj
    have hjz : j < zs.length := by omega
    rw [hcell j hjz]
    simp [hj, hjz]
end Go.Proofs.Ytlkalgjecfhgdaa

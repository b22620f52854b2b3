/- Timers that run out step by step; a clock and two rows side by side. No condition. -/
import Derived.Test.YtfikllghajhigaaClkLen
import Derived.Laws.Bits128
namespace Go.Proofs.Ytfikllghajhigaa
open Go.Proofs Go.RowKit Go.Lib Go.Sort
set_option linter.unusedVariables false

theorem i64_and255 (n : Int) : bits .and .i64 n 255 = n % 256 := by
  have h3 : (BitVec.ofInt 64 255).toNat = 2 ^ 8 - 1 := by decide
  have key : (BitVec.ofInt 64 n &&& BitVec.ofInt 64 255).toNat = (n % ((2 ^ 64 : Nat) : Int)).toNat % 2 ^ 8 := by
    rw [BitVec.toNat_and, BitVec.toNat_ofInt, h3, Nat.and_two_pow_sub_one_eq_mod]
  show IntKind.i64.wrap ((BitVec.ofInt 64 n &&& BitVec.ofInt 64 255).toNat : Nat) = n % 256
  rw [key, IntKind.wrap_i64]
  omega
/-- how many steps the timer is given beyond one -/
def val (zs : List Int) (i : Nat) : Nat := (zs.getD i 0 % 256).toNat
theorem vals_int (zs : List Int) (i : Nat) : zs.getD i 0 % 256 = ((val zs i : Nat) : Int) := by unfold val; omega
theorem val_lt (zs : List Int) (i : Nat) : val zs i < 256 := by unfold val; omega
/-- the first i timers have been started -/
def Pre (zs : List Int) (i : Nat) (l : List Nat) : Prop := ∀ x : Fin 32, key l x = if x.val < i then 1 + val zs x.val else 0
theorem Pre.zero (zs : List Int) : Pre zs 0 nought := fun x => by
  have := key_one 0 x 0
  rw [one_zero] at this
  rw [this, if_neg (Nat.not_lt_zero _)]
  split <;> rfl
theorem key_set' (l : List Nat) (hl : l.length = 32) (y x : Fin 32) (z : Nat) : key (l.set y.val z) x = if x = y then z else key l x := by
  unfold key
  have hx := x.isLt
  rw [List.getD_eq_getElem?_getD, List.getElem?_set, List.getD_eq_getElem?_getD]
  by_cases h : x = y
  · subst h
    rw [if_pos rfl, if_pos rfl, if_pos (by omega)]
    rfl
  · rw [if_neg (fun e => h (Fin.ext e.symm)), if_neg h]
theorem Pre.step {zs : List Int} {i : Nat} {l : List Nat} (h : Pre zs i l) (hl : l.length = 32) (hi : i < 32) : Pre zs (i + 1) (startL l (i : Int) ((1 + val zs i : Nat) : Int)) := fun x => by
  have hv := val_lt zs i
  have e : startL l (i : Int) ((1 + val zs i : Nat) : Int) = l.set i (1 + val zs i) := by
    unfold startL
    rw [if_pos (by omega), Int.toNat_natCast]
    congr 1
    unfold cut
    omega
  rw [e, show i = (⟨i, hi⟩ : Fin 32).val from rfl, key_set' l hl]
  by_cases hx : x = ⟨i, hi⟩
  · subst hx
    rw [if_pos rfl, if_pos (Nat.lt_succ_self _)]
  · have : x.val ≠ i := fun e => hx (Fin.ext e)
    rw [if_neg hx, h x]
    by_cases hxi : x.val < i
    · rw [if_pos hxi, if_pos (by simp only; omega)]
    · rw [if_neg hxi, if_neg (by simp only; omega)]
/-- one more step -/
theorem key_less (l : List Nat) (t : Nat) (x : Fin 32) : key (l.map (· - t)) x = key l x - t := by
  unfold key
  rw [List.getD_eq_getElem?_getD, List.getD_eq_getElem?_getD, List.getElem?_map]
  cases l[x.val]? <;> simp
theorem Exp.zero (l : List Nat) : Exp l 0 [] := by
  refine ⟨List.Pairwise.nil, fun x => ?_⟩
  unfold due
  constructor
  · intro h
    cases h
  · intro h
    omega
theorem Exp.more {l : List Nat} {t : Nat} {M K : List (Fin 32)} (h : Exp l t M) (h' : Exp (l.map (· - t)) 1 K) : Exp l (t + 1) (M ++ K) := by
  have hK : ∀ x, x ∈ K ↔ key l x = t + 1 := fun x => by
    rw [h'.2 x]
    unfold due
    rw [key_less]
    omega
  refine ⟨?_, fun x => ?_⟩
  · rw [List.pairwise_append]
    refine ⟨h.1, ?_, fun x hx y hy => ?_⟩
    · refine List.pairwise_iff_getElem.2 fun i j hi hj hij => ?_
      have hxy := List.pairwise_iff_getElem.1 h'.1 i j hi hj hij
      have h1 := (hK _).1 (List.getElem_mem hi)
      have h2 := (hK _).1 (List.getElem_mem hj)
      unfold rank at hxy ⊢
      rw [key_less, key_less] at hxy
      omega
    · have h1 := ((h.2 x).1 hx).2
      have h2 := (hK y).1 hy
      have := x.isLt
      unfold rank
      omega
  · rw [List.mem_append, h.2 x, hK x]
    unfold due
    omega

/-! in memory -/
theorem run_append_empty {w : World} {base : Nat} {t e : TypeId} {i : TypeInfo} (ht : Try.prog.underlying t = some (.slice e)) (hi : Try.prog.info? e = some i)
    {v : Value} {n : Nat} {xs : List Value} (hown : w.ownsRow base e 1 v n xs) (B : Option Addr) (c' : Nat) (ty : TypeId) : (Builtin.append_ #[t, t] ty #[v, .slice B 0 c']).run Try.prog w = .ok v w := by
  rcases hown.2 with ⟨rfl, rfl⟩ | ⟨g, cap, cur, rfl, _, _, hnc, _⟩
  · cases B <;> simp [Builtin.append_, run_underlying ht, sizeOf, typeInfo, hi, Builtin.lenOf, Builtin.firstCells, loadCells, loadCellsFrom]
  · cases B <;> simp [Builtin.append_, run_underlying ht, sizeOf, typeInfo, hi, Builtin.lenOf, Builtin.firstCells, hnc, storeCells, loadCells, loadCellsFrom]
theorem IOwn.apps {w : World} {base : Nat} {A : Option Addr} {c : Nat} {M : List (Fin 32)} (h : IOwn w base A c M) (hb : base ≤ w.heap.size) {B : Option Addr} {K : List (Fin 32)} (c' : Nat) (hK : RdI w B (ints K)) (hlen : M.length + K.length ≤ 100000) :
    ∃ A' d w', (∀ ty, (Builtin.append_ #[34, 34] ty #[.slice A M.length c, .slice B K.length c']).run Try.prog w = .ok (.slice A' (M.length + K.length) d) w') ∧ IOwn w' base A' d (M ++ K) ∧ Below base w w' := by
  obtain ⟨i0, hi, hz0, hz1, hz2⟩ := info_parts infoI
  by_cases hl : K = []
  · subst hl
    refine ⟨A, c, w, fun ty => run_append_empty Try.underlying34 hi h.1 B c' ty, by rw [List.append_nil]; exact h, Below.refl _ _⟩
  · have hp := List.length_pos_iff.2 hl
    obtain ⟨b, off, rfl, hc⟩ := hK (by intro e; exact hl (List.map_eq_nil_iff.1 e))
    obtain ⟨A', d, w', r, o, on, kin⟩ := app_kin w base 34 3 i0 _ 8 Try.underlying34 hi hz0 hz1 hz2 rfl A c M.length (M.map eid) h.1 ⟨b, off, none⟩ K.length c' (K.map eid) (by simp)
      (fun j u hu => by
        have hj : j < K.length := by
          rcases Nat.lt_or_ge j K.length with h | h
          · exact h
          · rw [List.getElem?_eq_none (by simpa using h)] at hu; cases hu
        rw [Go.WideShapes.add_plain, hc j (by simpa [ints] using hj), ints_getD K j hj]
        simp [List.getElem?_eq_getElem hj] at hu
        rw [← hu]
        rfl)
      (fun u hu => by obtain ⟨x, _, rfl⟩ := List.mem_map.mp hu; rfl) (by unfold maxLen; omega) (by omega) hb hp
    refine ⟨A', d, w', r, ⟨by simpa using o, fun e => absurd (List.append_eq_nil_iff.1 e).2 hl⟩, on.below (fun k hk => ?_) hb⟩
    by_cases hm : M = []
    · rw [(h.2 hm).1] at hk
      cases hk
    · obtain ⟨g, rfl, hg, _⟩ := h.parts hm
      injection hk with hk
      have hk' : g = k := hk
      omega
/-- a clock at q, the row Aall that it does not turn, and a row from base on that grows -/
structure OS (w v : World) (q base nb : Nat) (lb : List Nat) (Aall : Option Addr) (L : List (Fin 32)) (A : Option Addr) (c : Nat) (M : List (Fin 32)) : Prop where
  cs : CS v 45 q nb lb
  own : IOwn v base A c M
  rd : RdI v Aall (ints L)
  lo : L ≠ [] → ∀ k, blk Aall = some k → k < base ∧ k ≠ q
  qb : q < base
  bs : base ≤ v.heap.size
  bel : Below w.heap.size w v
  wq : w.heap.size ≤ q
section
variable {w v : World} {q base nb c : Nat} {lb : List Nat} {Aall A : Option Addr} {L M : List (Fin 32)}
theorem OS.pass (h : OS w v q base nb lb Aall L A c M) : Calls Try.prog 15 #[.pointer (some ⟨q, 0, none⟩), .int .i64 1] v fun e v' => ∃ B c' K, e = .returned (.slice B K.length c') ∧ Exp lb 1 K ∧ RdI v' B (ints K) ∧ OS w v' q base (later nb 1) (lb.map (· - 1)) Aall L A c M := by
  have C := pass_calls h.cs 1
  rw [show cut 0 1 = 1 from by decide] at C
  refine C.mono ?_
  rintro e v' ⟨B, c', K, rfl, hE, hR, hA, hc, on⟩
  have hqb := h.qb
  refine ⟨B, c', K, rfl, hE, hR, hc, ⟨ownsRow_only h.own.1 on fun k hk e => ?_, h.own.2⟩, ?_, h.lo, h.qb, Nat.le_trans h.bs on.size, h.bel.trans (on.below (fun k hk => by have := h.wq; omega) h.bel.size), h.wq⟩
  · by_cases hm : M = []
    · rw [(h.own.2 hm).1] at hk
      cases hk
    · obtain ⟨g, rfl, hg, _⟩ := h.own.parts hm
      injection hk with hk
      have hk' : g = k := hk
      omega
  · by_cases hl : L = []
    · subst hl
      exact RdI.nil _ _
    · exact h.rd.only on fun k hk e => (h.lo hl k hk).2 e
theorem OS.apps (h : OS w v q base nb lb Aall L A c M) {B : Option Addr} {K : List (Fin 32)} (c' : Nat) (hK : RdI v B (ints K)) (hlen : M.length + K.length ≤ 100000) :
    ∃ A' d v', (∀ ty, (Builtin.append_ #[34, 34] ty #[.slice A M.length c, .slice B K.length c']).run Try.prog v = .ok (.slice A' (M.length + K.length) d) v') ∧ OS w v' q base nb lb Aall L A' d (M ++ K) := by
  obtain ⟨A', d, v', run, own, bel⟩ := h.own.apps h.bs c' hK hlen
  refine ⟨A', d, v', run, ⟨h.cs.1, h.cs.2.1, h.cs.2.2.1, (bel.block q h.qb).trans h.cs.2.2.2⟩, own, fun hne => ?_, h.lo, h.qb, Nat.le_trans h.bs bel.size, h.bel.trans (bel.mono (by have := h.wq; have := h.qb; omega)), h.wq⟩
  obtain ⟨b, off, e, hc⟩ := h.rd hne
  have hl : L ≠ [] := by rintro rfl; exact hne rfl
  exact ⟨b, off, e, fun j hj => (bel.cell (p := ⟨b, off + j, none⟩) (h.lo hl b (by rw [e]; rfl)).1).trans (hc j hj)⟩
end
end Go.Proofs.Ytfikllghajhigaa

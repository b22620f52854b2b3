/- Two rings of the program side by side. No condition. -/
import Derived.Test.YtpjhehfhpeclhaaRngAlive
namespace Go.Proofs.Ytpjhehfhpeclhaa
open Go.RowKit
set_option linter.unusedVariables false

/-- The rings at p and q are in the states sa, sb; their memory lies apart and is new; what was there before stands. -/
structure Pair (w v : World) (Fa Fb : Nat → Prop) (p q : Nat) (sa sb : Rng) : Prop where
  pa : PQ v Fa p sa
  pb : PQ v Fb q sb
  apart : ∀ k, Fa k → ¬ Fb k
  new : ∀ k, Fa k ∨ Fb k → w.heap.size ≤ k
  bel : Below w.heap.size w v
section
variable {w v v' : World} {Fa Fb : Nat → Prop} {p q : Nat} {sa sb s' : Rng}
theorem Pair.turnA (h : Pair w v Fa Fb p q sa sb) (t : Turn Fa p s' v v') : Pair w v' (more Fa v v') Fb p q s' sb :=
  ⟨t.1, h.pb.only t.2 (fun k hk hp => h.apart k hp hk), fun k hk hF => hk.elim (fun hp => h.apart k hp hF) (fun hn => by have := h.pb.lt k hF; omega),
    fun k hk => hk.elim (fun hk => hk.elim (fun hp => h.new k (.inl hp)) (fun hn => Nat.le_trans h.bel.size hn.1)) (fun hk => h.new k (.inr hk)), h.bel.trans (t.2.below (fun k hk => h.new k (.inl hk)) h.bel.size)⟩
theorem Pair.turnB (h : Pair w v Fa Fb p q sa sb) (t : Turn Fb q s' v v') : Pair w v' Fa (more Fb v v') p q sa s' :=
  ⟨h.pa.only t.2 (fun k hk hp => h.apart k hk hp), t.1, fun k hk hF => hF.elim (fun hp => h.apart k hk hp) (fun hn => by have := h.pa.lt k hk; omega),
    fun k hk => hk.elim (fun hp => h.new k (.inl hp)) (fun hk => hk.elim (fun hp => h.new k (.inr hp)) (fun hn => Nat.le_trans h.bel.size hn.1)), h.bel.trans (t.2.below (fun k hk => h.new k (.inr hk)) h.bel.size)⟩
theorem Pair.sameA (h : Pair w v Fa Fb p q sa sb) (hp : PQ v' Fa p s') (o : Only Fa v v') : Pair w v' Fa Fb p q s' sb :=
  ⟨hp, h.pb.only o (fun k hk hp => h.apart k hp hk), h.apart, h.new, h.bel.trans (o.below (fun k hk => h.new k (.inl hk)) h.bel.size)⟩
theorem Pair.sameB (h : Pair w v Fa Fb p q sa sb) (hp : PQ v' Fb q s') (o : Only Fb v v') : Pair w v' Fa Fb p q sa s' :=
  ⟨h.pa.only o (fun k hk hp => h.apart k hk hp), hp, h.apart, h.new, h.bel.trans (o.below (fun k hk => h.new k (.inr hk)) h.bel.size)⟩
theorem Pair.addA (h : Pair w v Fa Fb p q sa sb) (B : Option Addr) (d : Nat) (x : List UInt8) (hr : Rd v B x) (hd : x.length ≤ d) (hd' : d ≤ maxLen) :
    Calls Try.prog 10 #[.pointer (some ⟨p, 0, none⟩), .slice B x.length d] v fun e v' => e = .returned (.bool (sa.fits x)) ∧ Pair w v' (more Fa v v') Fb p q (sa.add x) sb :=
  (add_calls h.pa B d x hr hd hd').mono fun _ _ ⟨h1, h2⟩ => ⟨h1, h.turnA h2⟩
theorem Pair.addB (h : Pair w v Fa Fb p q sa sb) (B : Option Addr) (d : Nat) (x : List UInt8) (hr : Rd v B x) (hd : x.length ≤ d) (hd' : d ≤ maxLen) :
    Calls Try.prog 10 #[.pointer (some ⟨q, 0, none⟩), .slice B x.length d] v fun e v' => e = .returned (.bool (sb.fits x)) ∧ Pair w v' Fa (more Fb v v') p q sa (sb.add x) :=
  (add_calls h.pb B d x hr hd hd').mono fun _ _ ⟨h1, h2⟩ => ⟨h1, h.turnB h2⟩
theorem Pair.takeA (h : Pair w v Fa Fb p q sa sb) (n : Int) :
    Calls Try.prog 12 #[.pointer (some ⟨p, 0, none⟩), .int .i64 n] v fun e v' => Taken (sa.takeL n) v e v' ∧ Pair w v' Fa Fb p q (sa.take n) sb :=
  (take_calls h.pa n).mono fun _ _ ⟨h1, h2, h3⟩ => ⟨h1, h.sameA h2 h3⟩
theorem Pair.takeB (h : Pair w v Fa Fb p q sa sb) (n : Int) :
    Calls Try.prog 12 #[.pointer (some ⟨q, 0, none⟩), .int .i64 n] v fun e v' => Taken (sb.takeL n) v e v' ∧ Pair w v' Fa Fb p q sa (sb.take n) :=
  (take_calls h.pb n).mono fun _ _ ⟨h1, h2, h3⟩ => ⟨h1, h.sameB h2 h3⟩
theorem Pair.lenA (h : Pair w v Fa Fb p q sa sb) : Calls Try.prog 16 #[.pointer (some ⟨p, 0, none⟩)] v fun e v' => e = .returned (.int .i64 (sa.o.length : Int)) ∧ v' = v := len_calls h.pa
theorem Pair.lenB (h : Pair w v Fa Fb p q sa sb) : Calls Try.prog 16 #[.pointer (some ⟨q, 0, none⟩)] v fun e v' => e = .returned (.int .i64 (sb.o.length : Int)) ∧ v' = v := len_calls h.pb
end
/-- two new rings -/
theorem Pair.start {w W : World} (hb : Below w.heap.size w W) (r1 r2 : Int) :
    Pair w ((W.alloc (.cells (rc (newRng r1).R none 0 0 0 none 0 0 0) 41)).alloc (.cells (rc (newRng r2).R none 0 0 0 none 0 0 0) 41)) (fun k => k = W.heap.size) (fun k => k = W.heap.size + 1) W.heap.size (W.heap.size + 1) (newRng r1) (newRng r2) := by
  have e1 : ∀ (V : World) (o : Obj), (V.alloc o).heap.size = V.heap.size + 1 := fun V o => by simp
  have b1 := fun (V : World) (o : Obj) => (Below.refl V.heap.size V).alloc (Nat.le_refl _) o
  have p1 := PQ.fresh W r1
  have p2 := PQ.fresh (W.alloc (.cells (rc (newRng r1).R none 0 0 0 none 0 0 0) 41)) r2
  rw [e1] at p2
  have hs := hb.size
  refine ⟨?_, p2, fun k h1 h2 => by omega, fun k h => by rcases h with h | h <;> omega, ?_⟩
  · exact p1.only (G := fun _ => False) (Only.of_below _ (b1 _ _)) (fun _ _ h => h)
  · exact (hb.alloc hb.size _).alloc (by rw [e1]; omega) _
end Go.Proofs.Ytpjhehfhpeclhaa

/- One table of the program behind what was there; the example of the document, walked. No condition. -/
import Derived.Test.YtfhlogkdmjdpdaaTwnGot
namespace Go.Proofs.Ytfhlogkdmjdpdaa
open Go.RowKit
set_option linter.unusedVariables false

theorem u32_nat {a : Int} (h : (Lit.int .u32 a).wf = true) : ∃ k : Nat, a = (k : Int) ∧ k < 4294967296 := by
  have := bounds_u32 h
  exact ⟨a.toNat, by omega, by omega⟩
/-- The block b, behind what was in w, holds the table m. -/
structure One (w v : World) (b : Nat) (m : Tb) : Prop where
  tab : PT v b m
  bel : Below w.heap.size w v
  base : w.heap.size ≤ b
section
variable {w v : World} {b : Nat} {m : Tb}
theorem One.fresh (h : One w v b m) {n : Nat} (hn : n < 4294967296) : Calls Try.prog 11 #[.pointer (some ⟨b, 0, none⟩), .int .u32 (n : Int)] v fun e v' => e = .returned (.bool (m.isNew n)) ∧ One w v' b (m.got n) ∧ Only (fun k => k = b) v v' := by
  refine (fresh_calls h.tab hn).mono ?_
  rintro e v' ⟨rfl, h1, on⟩
  exact ⟨rfl, ⟨h1, h.bel.trans (on.below (fun k hk => by have := h.base; omega) h.bel.size), h.base⟩, on⟩
theorem One.drewN (h : One w v b m) (j : Nat) : One w (v.drewN j) b m := ⟨h.tab, ⟨h.bel.os, h.bel.tape, h.bel.output, h.bel.size, h.bel.block⟩, h.base⟩
theorem One.later {w0 : World} (h : One w v b m) (hb : Below w0.heap.size w0 w) : One w0 v b m := ⟨h.tab, hb.trans (h.bel.mono hb.size), Nat.le_trans hb.size h.base⟩
end
theorem one_new (n : Int) (w : World) : Calls Try.prog 9 #[.int .i64 n] w fun e w' => ∃ b, e = .returned (.pointer (some ⟨b, 0, none⟩)) ∧ One w w' b (tnew n) := by
  refine (tnew_calls n w).mono ?_
  rintro e w' ⟨rfl, h1, h2, _⟩
  exact ⟨_, rfl, h1, h2, Nat.le_refl _⟩
theorem alive_calls (w : World) : Calls Try.prog 8 #[] w fun e w' => e = .returned (.bool true) ∧ Below w.heap.size w w' := by
  go_enter Try.func8, Try.ntmps8
  go_wp2_with fail
  refine (one_new 8 w).mono ?_
  rintro e w1 ⟨b, rfl, p1⟩
  have n1 := p1.fresh (n := 5) (by decide)
  rw [show (tnew 8).isNew 5 = true from rfl] at n1
  clear p1
  go_wp2_with fail
  refine n1.mono ?_
  rintro e w2 ⟨rfl, p2, _⟩
  clear n1
  have n2 := p2.fresh (n := 5) (by decide)
  rw [show ((tnew 8).got 5).isNew 5 = false from rfl] at n2
  clear p2
  go_wp2_with fail
  refine n2.mono ?_
  rintro e w3 ⟨rfl, p3, _⟩
  clear n2
  have n3 := p3.fresh (n := 6) (by decide)
  rw [show (((tnew 8).got 5).got 5).isNew 6 = true from rfl] at n3
  clear p3
  go_wp2_with fail
  refine n3.mono ?_
  rintro e w4 ⟨rfl, p4, _⟩
  clear n3
  have FIN := Lib.hid p4.bel
  clear p4
  go_wp2
  go_ret
  exact ⟨rfl, FIN.out⟩
end Go.Proofs.Ytfhlogkdmjdpdaa

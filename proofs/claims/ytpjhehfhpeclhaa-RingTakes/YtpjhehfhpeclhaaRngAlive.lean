/- One ring of the program and what lies beside it; the document's example, as each statement of chapter 11 looks at it first. No condition. -/
import Derived.Test.YtpjhehfhpeclhaaRngTake
import Derived.Lib.SlBytesConst
namespace Go.Proofs.Ytpjhehfhpeclhaa
open Go.RowKit
set_option linter.unusedVariables false

/-- The ring of the program at b is in the state s, its memory (F) is new; what was there before stands. -/
def One (w v : World) (F : Nat → Prop) (b : Nat) (s : Rng) : Prop := PQ v F b s ∧ (∀ k, F k → w.heap.size ≤ k) ∧ Below w.heap.size w v
section
variable {w v v' : World} {F : Nat → Prop} {b : Nat} {s : Rng}
theorem One.bel (h : One w v F b s) : Below w.heap.size w v := h.2.2
theorem One.of_turn (h : One w v F b s) {s' : Rng} (ht : Turn F b s' v v') : One w v' (more F v v') b s' :=
  ⟨ht.1, fun k hk => hk.elim (h.2.1 k) (fun h' => Nat.le_trans h.2.2.size h'.1), h.2.2.trans (ht.2.below h.2.1 h.2.2.size)⟩
theorem One.of_same (h : One w v F b s) {s' : Rng} (hp : PQ v' F b s') (o : Only F v v') : One w v' F b s' := ⟨hp, h.2.1, h.2.2.trans (o.below h.2.1 h.2.2.size)⟩
/-- memory that the ring does not touch has turned or come -/
theorem One.beside (h : One w v F b s) (hb : Below v.heap.size v v') : One w v' F b s := ⟨h.1.only (G := fun _ => False) (Only.of_below _ hb) (fun _ _ h => h), h.2.1, h.2.2.trans (hb.mono h.2.2.size)⟩
theorem One.drewN (h : One w v F b s) (n : Nat) : One w (v.drewN n) F b s := ⟨h.1, h.2.1, ⟨h.2.2.os, h.2.2.tape, h.2.2.output, h.2.2.size, h.2.2.block⟩⟩
theorem One.fresh (bel : Below w.heap.size w v) (room : Int) : One w (v.alloc (.cells (rc (newRng room).R none 0 0 0 none 0 0 0) 41)) (fun k => k = v.heap.size) v.heap.size (newRng room) :=
  ⟨PQ.fresh v room, fun k hk => by rw [hk]; exact bel.size, bel.alloc bel.size _⟩
theorem One.add (h : One w v F b s) (B : Option Addr) (d : Nat) (x : List UInt8) (hr : Rd v B x) (hd : x.length ≤ d) (hd' : d ≤ maxLen) :
    Calls Try.prog 10 #[.pointer (some ⟨b, 0, none⟩), .slice B x.length d] v fun e v' => e = .returned (.bool (s.fits x)) ∧ One w v' (more F v v') b (s.add x) ∧ Only F v v' :=
  (add_calls h.1 B d x hr hd hd').mono fun _ _ ⟨h1, h2⟩ => ⟨h1, h.of_turn h2, h2.2⟩
theorem One.take (h : One w v F b s) (n : Int) :
    Calls Try.prog 12 #[.pointer (some ⟨b, 0, none⟩), .int .i64 n] v fun e v' => Taken (s.takeL n) v e v' ∧ One w v' F b (s.take n) ∧ Only F v v' :=
  (take_calls h.1 n).mono fun _ _ ⟨h1, h2, h3⟩ => ⟨h1, h.of_same h2 h3, h3⟩
theorem One.clear (h : One w v F b s) :
    Calls Try.prog 14 #[.pointer (some ⟨b, 0, none⟩)] v fun e v' => e = .returned (.int .i64 (s.gone : Int)) ∧ One w v' (more F v v') b s.clear ∧ Only F v v' :=
  (clear_calls h.1).mono fun _ _ ⟨h1, h2⟩ => ⟨h1, h.of_turn h2, h2.2⟩
theorem One.len (h : One w v F b s) : Calls Try.prog 16 #[.pointer (some ⟨b, 0, none⟩)] v fun e v' => e = .returned (.int .i64 (s.o.length : Int)) ∧ v' = v := len_calls h.1
theorem One.dropped (h : One w v F b s) : Calls Try.prog 18 #[.pointer (some ⟨b, 0, none⟩)] v fun e v' => e = .returned (.int .i64 (s.D : Int)) ∧ v' = v := dropped_calls h.1
end
def al0 : Rng := ⟨5, [], false, 0⟩
def al1 : Rng := ⟨5, [[97, 98, 99]], false, 0⟩
def al2 : Rng := ⟨5, [[97, 98, 99]], false, 1⟩
theorem alive_calls (w : World) : Calls Try.prog 7 #[] w fun e w' => e = .returned (.bool true) ∧ Below w.heap.size w w' := by
  have hcc := fun (w : World) (C : Array Value) (n c : Nat) => Lib.run_convert_bytes_const (P := Try.prog) w 28 5 C n c Try.underlying28 Try.underlying5
  have NW := new_calls 5 w
  have O1 := Lib.hid (One.fresh (Below.refl w.heap.size w) 5)
  go_enter Try.func7, Try.ntmps7
  go_wp2_with fail
  refine NW.mono ?_
  rintro e w1 ⟨rfl, rfl⟩
  clear NW
  generalize w.alloc (.cells (rc (newRng 5).R none 0 0 0 none 0 0 0) 41) = w1 at *
  have TK := O1.out.take 3
  rw [show (newRng 5).takeL 3 = [] from rfl, show (newRng 5).take 3 = al0 from rfl] at TK
  clear O1
  go_wp2_with fail
  refine TK.mono ?_
  rintro e w2 ⟨⟨A2, c2, rfl, _⟩, h2, _⟩
  clear TK
  have P2 := (h2.beside (laidM_below w2 [97, 98, 99])).add (some ⟨w2.heap.size, 0, none⟩) 3 [97, 98, 99] (laidM_rd w2 [97, 98, 99]) (by decide) (by decide)
  rw [show al0.fits [97, 98, 99] = true from rfl, show al0.add [97, 98, 99] = al1 from rfl] at P2
  clear h2
  go_wp2_with fail
  refine P2.mono ?_
  rintro e w3 ⟨rfl, h3, _⟩
  clear P2
  have P2 := (h3.beside (laidM_below w3 [100, 101, 102])).add (some ⟨w3.heap.size, 0, none⟩) 3 [100, 101, 102] (laidM_rd w3 [100, 101, 102]) (by decide) (by decide)
  rw [show al1.fits [100, 101, 102] = false from rfl, show al1.add [100, 101, 102] = al2 from rfl] at P2
  clear h3
  go_wp2_with fail
  refine P2.mono ?_
  rintro e w4 ⟨rfl, h4, _⟩
  clear P2
  have DR := h4.dropped
  have TK := h4.take 2
  rw [show al2.takeL 2 = [97, 98] from rfl] at TK
  rw [show ((al2.D : Nat) : Int) = 1 from rfl] at DR
  clear h4
  go_wp2_with fail
  refine DR.mono ?_
  rintro e w9 ⟨rfl, rfl⟩
  go_wp2_with fail
  refine TK.mono ?_
  rintro e w5 ⟨⟨A4, c4, rfl, own⟩, h5, _⟩
  have q4 : (convert 28 9 (.slice A4 2 c4)).run Try.prog w5 = .ok (.string ⟨#[97, 98]⟩) w5 := run_conv w5 A4 c4 [97, 98] own.rd
  have FI := Lib.hid h5.bel
  clear TK own h5
  go_wp2
  go_ret
  exact ⟨rfl, FI.out⟩
end Go.Proofs.Ytpjhehfhpeclhaa

/- One pipe of the program and what lies beside it; the document's example, as each statement of chapter 8 looks at it first. No condition. -/
import Derived.Test.YtfneegndlkbgpaaPipTake
import Derived.Lib.SlBytesConst
namespace Go.Proofs.Ytfneegndlkbgpaa
open Go.RowKit
set_option linter.unusedVariables false

/-- The pipe of the program at b is in the state s, its memory (F) is new; what was there before stands. -/
def One (w v : World) (F : Nat → Prop) (b : Nat) (s : Pip) : Prop := PP v F 42 b s ∧ (∀ k, F k → w.heap.size ≤ k) ∧ Below w.heap.size w v
section
variable {w v v' : World} {F : Nat → Prop} {b : Nat} {s : Pip}
theorem One.bel (h : One w v F b s) : Below w.heap.size w v := h.2.2
theorem One.of_turn (h : One w v F b s) {s' : Pip} (ht : Turn F 42 b s' v v') : One w v' (more F v v') b s' :=
  ⟨ht.1, fun k hk => hk.elim (h.2.1 k) (fun h' => Nat.le_trans h.2.2.size h'.1), h.2.2.trans (ht.2.below h.2.1 h.2.2.size)⟩
theorem One.of_same (h : One w v F b s) {s' : Pip} (hp : PP v' F 42 b s') (o : Only F v v') : One w v' F b s' := ⟨hp, h.2.1, h.2.2.trans (o.below h.2.1 h.2.2.size)⟩
/-- memory that the pipe does not touch has turned or come -/
theorem One.beside (h : One w v F b s) (hb : Below v.heap.size v v') : One w v' F b s := ⟨h.1.only (G := fun _ => False) (Only.of_below _ hb) (fun _ _ h => h), h.2.1, h.2.2.trans (hb.mono h.2.2.size)⟩
theorem One.drewN (h : One w v F b s) (n : Nat) : One w (v.drewN n) F b s := ⟨h.1, h.2.1, ⟨h.2.2.os, h.2.2.tape, h.2.2.output, h.2.2.size, h.2.2.block⟩⟩
theorem One.fresh (bel : Below w.heap.size w v) (room : Int) : One w (v.alloc (.cells (pc (newPip room).R none 0 0 false false) 42)) (fun k => k = v.heap.size) v.heap.size (newPip room) :=
  ⟨PP.fresh v _ room, fun k hk => by rw [hk]; exact bel.size, bel.alloc bel.size _⟩
theorem One.put (h : One w v F b s) (B : Option Addr) (d : Nat) (x : List UInt8) (hr : Rd v B x) (hd : x.length ≤ d) (hd' : d ≤ maxLen) :
    Calls Try.prog 10 #[.pointer (some ⟨b, 0, none⟩), .slice B x.length d] v fun e v' => e = .returned (.int .i64 (s.putN x : Int)) ∧ One w v' (more F v v') b (s.put x) ∧ Only F v v' :=
  (put_calls h.1 B d x hr hd hd').mono fun _ _ ⟨h1, h2⟩ => ⟨h1, h.of_turn h2, h2.2⟩
theorem One.take (h : One w v F b s) (n : Int) :
    Calls Try.prog 12 #[.pointer (some ⟨b, 0, none⟩), .int .i64 n] v fun e v' => Taken (s.takeL n) v e v' ∧ One w v' F b (s.take n) ∧ Only F v v' :=
  (take_calls h.1 n).mono fun _ _ ⟨h1, h2, h3⟩ => ⟨h1, h.of_same h2 h3, h3⟩
theorem One.fault (h : One w v F b s) (kind n : Int) (y : UInt8) :
    Calls Try.prog 14 #[.pointer (some ⟨b, 0, none⟩), .int .i64 kind, .int .i64 n, bv y] v fun e v' => e = .returned (.bool (s.faultB kind n)) ∧ One w v' (more F v v') b (s.fault kind n y) ∧ Only F v v' :=
  (fault_calls h.1 kind n y).mono fun _ _ ⟨h1, h2⟩ => ⟨h1, h.of_turn h2, h2.2⟩
theorem One.len (h : One w v F b s) : Calls Try.prog 16 #[.pointer (some ⟨b, 0, none⟩)] v fun e v' => e = .returned (.int .i64 (s.l.length : Int)) ∧ v' = v := len_calls h.1
end

theorem alive_calls (w : World) : Calls Try.prog 7 #[] w fun e w' => e = .returned (.bool true) ∧ Below w.heap.size w w' := by
  have hcc := fun (w : World) (C : Array Value) (n c : Nat) => Lib.run_convert_bytes_const (P := Try.prog) w 28 5 C n c Try.underlying28 Try.underlying5
  have NW := new_calls 5 w
  have O1 := Lib.hid (One.fresh (Below.refl w.heap.size w) 5)
  go_enter Try.func7, Try.ntmps7
  go_wp2_with fail
  refine NW.mono ?_
  rintro e w1 ⟨rfl, rfl⟩
  clear NW
  generalize w.alloc (.cells (pc (newPip 5).R none 0 0 false false) 42) = w1 at *
  have TK := O1.out.take 3
  rw [show (newPip 5).takeL 3 = [] from rfl, show (newPip 5).take 3 = newPip 5 from rfl] at TK
  clear O1
  go_wp2_with fail
  refine TK.mono ?_
  rintro e w2 ⟨⟨A2, c2, rfl, _⟩, h2, _⟩
  clear TK
  have P2 := (h2.beside (laidM_below w2 [97, 98])).put (some ⟨w2.heap.size, 0, none⟩) 2 [97, 98] (laidM_rd w2 [97, 98]) (by decide) (by decide)
  rw [show (newPip 5).putN [97, 98] = 2 from rfl, show (newPip 5).put [97, 98] = ⟨5, [97, 98], false, false⟩ from rfl] at P2
  clear h2
  go_wp2_with fail
  refine P2.mono ?_
  rintro e w3 ⟨rfl, h3, _⟩
  clear P2
  have TK := h3.take 1
  rw [show (⟨5, [97, 98], false, false⟩ : Pip).takeL 1 = [97] from rfl] at TK
  clear h3
  go_wp2_with fail
  refine TK.mono ?_
  rintro e w4 ⟨⟨A4, c4, rfl, own⟩, h4, _⟩
  have q4 : (convert 28 9 (.slice A4 1 c4)).run Try.prog w4 = .ok (.string ⟨#[97]⟩) w4 := run_conv w4 A4 c4 [97] own.rd
  have FI := Lib.hid h4.bel
  clear TK own h4
  go_wp2
  go_ret
  exact ⟨rfl, FI.out⟩
end Go.Proofs.Ytfneegndlkbgpaa

/- One order of the program and what lies beside it; the document's example, as each statement of chapter 14 looks at it first. No condition. -/
import Derived.Test.YtbalhpffdgbdgaaOrdPut
import Derived.Test.YtbalhpffdgbdgaaOrdTake
import Derived.Lib.SlBytesConst
namespace Go.Proofs.Ytbalhpffdgbdgaa
open Go.RowKit
set_option linter.unusedVariables false

/-- The order of the program at b is in the state s, its memory is new; what was there before stands. -/
def OdOne (w v : World) (b : Nat) (s : Od) : Prop := ∃ F, OdP v F b s ∧ (∀ k, F k → w.heap.size ≤ k) ∧ Below w.heap.size w v
section
variable {w v v' : World} {b : Nat} {s : Od}
theorem OdOne.bel (h : OdOne w v b s) : Below w.heap.size w v := by obtain ⟨F, h⟩ := h; exact h.2.2
theorem OdOne.ok (h : OdOne w v b s) : s.Ok := by obtain ⟨F, h⟩ := h; exact h.1.2
/-- memory that the order does not touch has turned or come -/
theorem OdOne.beside (h : OdOne w v b s) (hb : Below v.heap.size v v') : OdOne w v' b s := by
  obtain ⟨F, h⟩ := h
  exact ⟨F, h.1.only (G := fun _ => False) (Only.of_below _ hb) (fun _ _ h => h), h.2.1, h.2.2.trans (hb.mono h.2.2.size)⟩
theorem OdOne.drewN (h : OdOne w v b s) (n : Nat) : OdOne w (v.drewN n) b s := h.beside ⟨rfl, rfl, rfl, Nat.le_refl _, fun _ _ => rfl⟩
/-- a new one -/
theorem OdOne.new (bel : Below w.heap.size w v) (m W : Int) :
    Calls Try.prog 8 #[.int .i64 m, .int .i64 W] v fun e v' => e = .returned (.pointer (some ⟨v.heap.size + 1, 0, none⟩)) ∧ OdOne w v' (v.heap.size + 1) (Od.new m W) := by
  refine (odNew_calls m W v).mono ?_
  rintro e v' ⟨rfl, rfl⟩
  exact ⟨rfl, _, OdP.fresh v m W, fun k hk => by have := bel.size; omega, (bel.alloc bel.size _).alloc (by simp; have := bel.size; omega) _⟩
theorem OdOne.put (h : OdOne w v b s) (hall : s.all ≤ 999999) (n : Int) (hn : I64 n) (X : Option Addr) (d : Nat) (x : List UInt8) (hr : Rd v X x) (hx : x.length ≤ 1048576) :
    Calls Try.prog 10 #[.pointer (some ⟨b, 0, none⟩), .int .i64 n, .slice X x.length d] v fun e v' => e = .returned (.int .i64 (s.putN n x)) ∧ OdOne w v' b (s.put n x) := by
  obtain ⟨F, h⟩ := h
  exact (odPut_calls h.1 hall n hn X d x hr hx).mono fun _ v' ⟨h1, h2⟩ => ⟨h1, more F v v', h2.1, fun k hk => hk.elim (h.2.1 k) (fun h' => Nat.le_trans h.2.2.size h'.1), h.2.2.trans (h2.2.below h.2.1 h.2.2.size)⟩
theorem OdOne.take (h : OdOne w v b s) :
    Calls Try.prog 12 #[.pointer (some ⟨b, 0, none⟩)] v fun e v' => ∃ A c, e = .returned (.tuple #[.slice A s.takeX.length c, .bool s.takeB]) ∧ Rd v' A s.takeX ∧ OdOne w v' b s.take ∧ ∀ X z, Rd v X z → Rd v' X z := by
  obtain ⟨F, h⟩ := h
  exact (odTake_calls h.1).mono fun _ v' ⟨A, c, h1, h2, h3, h4, h5⟩ => ⟨A, c, h1, h2, ⟨F, h3, h.2.1, h.2.2.trans (h4.below h.2.1 h.2.2.size)⟩, h5⟩
theorem OdOne.next (h : OdOne w v b s) : Calls Try.prog 16 #[.pointer (some ⟨b, 0, none⟩)] v fun e v' => e = .returned (.int .i64 (s.e : Int)) ∧ v' = v := by
  obtain ⟨F, h⟩ := h
  exact odNext_calls h.1
theorem OdOne.gap (h : OdOne w v b s) : Calls Try.prog 18 #[.pointer (some ⟨b, 0, none⟩)] v fun e v' => e = .returned (.bool s.gap) ∧ v' = v := by
  obtain ⟨F, h⟩ := h
  exact odGap_calls h.1
theorem OdOne.clear (h : OdOne w v b s) :
    Calls Try.prog 14 #[.pointer (some ⟨b, 0, none⟩)] v fun e v' => e = .returned (.tuple #[]) ∧ OdOne w v' b s.clear := by
  obtain ⟨F, h⟩ := h
  exact (odClear_calls h.1).mono fun _ v' ⟨h1, h3, h4⟩ => ⟨h1, F, h3, h.2.1, h.2.2.trans (h4.below h.2.1 h.2.2.size)⟩
end
theorem alive_calls (w : World) : Calls Try.prog 7 #[] w fun e w' => e = .returned (.bool true) ∧ Below w.heap.size w w' := by
  have hcc := fun (w : World) (C : Array Value) (n c : Nat) => Lib.run_convert_bytes_const (P := Try.prog) w 28 5 C n c Try.underlying28 Try.underlying5
  have NW := OdOne.new (Below.refl w.heap.size w) 128 4
  rw [show Od.new 128 4 = ⟨128, 4, 0, [], []⟩ from rfl] at NW
  go_enter Try.func7, Try.ntmps7
  go_wp2_with fail
  refine NW.mono ?_
  rintro e w1 ⟨rfl, h1⟩
  clear NW
  generalize w.heap.size + 1 = p at *
  have P1 := (h1.beside (laidM_below w1 [98])).put (by decide) 1 (by unfold I64; omega) (some ⟨w1.heap.size, 0, none⟩) 1 [98] (laidM_rd w1 [98]) (by decide)
  rw [show (⟨128, 4, 0, [], []⟩ : Od).putN 1 [98] = 0 by decide +kernel, show (⟨128, 4, 0, [], []⟩ : Od).put 1 [98] = ⟨128, 4, 0, [(1, [98])], []⟩ from rfl] at P1
  clear h1
  go_wp2_with fail
  refine P1.mono ?_
  rintro e w2 ⟨rfl, h2⟩
  clear P1
  have G2 := h2.gap
  rw [show (⟨128, 4, 0, [(1, [98])], []⟩ : Od).gap = true from rfl] at G2
  go_wp2_with fail
  refine G2.mono ?_
  rintro e w3 ⟨rfl, rfl⟩
  clear G2
  have P2 := (h2.beside (laidM_below w3 [97])).put (by decide) 0 (by unfold I64; omega) (some ⟨w3.heap.size, 0, none⟩) 1 [97] (laidM_rd w3 [97]) (by decide)
  rw [show (⟨128, 4, 0, [(1, [98])], []⟩ : Od).putN 0 [97] = 2 by decide +kernel, show (⟨128, 4, 0, [(1, [98])], []⟩ : Od).put 0 [97] = ⟨128, 4, 2, [], [[97], [98]]⟩ from rfl] at P2
  clear h2
  go_wp2_with fail
  refine P2.mono ?_
  rintro e w4 ⟨rfl, h4⟩
  clear P2
  have TK := h4.take
  rw [show (⟨128, 4, 2, [], [[97], [98]]⟩ : Od).takeX = [97] from rfl, show (⟨128, 4, 2, [], [[97], [98]]⟩ : Od).takeB = true from rfl] at TK
  clear h4
  go_wp2_with fail
  refine TK.mono ?_
  rintro e w5 ⟨A5, c5, rfl, rd, h5, _⟩
  have q5 : (convert 28 9 (.slice A5 1 c5)).run Try.prog w5 = .ok (.string ⟨#[97]⟩) w5 := run_conv w5 A5 c5 [97] rd
  have FI := Lib.hid h5.bel
  clear TK rd h5
  go_wp2
  go_ret
  exact ⟨rfl, FI.out⟩
end Go.Proofs.Ytbalhpffdgbdgaa

/- One log of the program and what lies beside it; the document's example, as each statement of chapter 13 looks at it first. No condition. -/
import Derived.Test.YteofffnfafhgfaaLogAdd
import Derived.Test.YteofffnfafhgfaaLogNext
import Derived.Test.YteofffnfafhgfaaLogAck
import Derived.Test.YteofffnfafhgfaaLogOut
import Derived.Lib.SlBytesConst
namespace Go.Proofs.Yteofffnfafhgfaa
open Go.RowKit
set_option linter.unusedVariables false

/-- The log of the program at b is in the state s, its memory is new; what was there before stands. -/
def LgOne (w v : World) (b : Nat) (s : Lg) : Prop := ∃ F, LgP v F b s ∧ (∀ k, F k → w.heap.size ≤ k) ∧ Below w.heap.size w v
section
variable {w v v' : World} {b : Nat} {s : Lg}
theorem LgOne.bel (h : LgOne w v b s) : Below w.heap.size w v := by obtain ⟨F, h⟩ := h; exact h.2.2
theorem LgOne.ok (h : LgOne w v b s) : s.Ok := by obtain ⟨F, h⟩ := h; exact h.1.2
/-- memory that the log does not touch has turned or come -/
theorem LgOne.beside (h : LgOne w v b s) (hb : Below v.heap.size v v') : LgOne w v' b s := by
  obtain ⟨F, h⟩ := h
  exact ⟨F, h.1.only (G := fun _ => False) (Only.of_below _ hb) (fun _ _ h => h), h.2.1, h.2.2.trans (hb.mono h.2.2.size)⟩
theorem LgOne.drewN (h : LgOne w v b s) (n : Nat) : LgOne w (v.drewN n) b s := h.beside ⟨rfl, rfl, rfl, Nat.le_refl _, fun _ _ => rfl⟩
theorem LgOne.fresh (bel : Below w.heap.size w v) (m W Q : Int) : LgOne w (v.alloc (.cells (lgc (Lg.new m W Q).m (Lg.new m W Q).W (Lg.new m W Q).Q 0 0 none 0 0) 53)) v.heap.size (Lg.new m W Q) :=
  ⟨fun k => k = v.heap.size, LgP.fresh v m W Q, fun k hk => by rw [hk]; exact bel.size, bel.alloc bel.size _⟩
theorem LgOne.add (h : LgOne w v b s) (B : Option Addr) (d : Nat) (x : List UInt8) (hr : Rd v B x) (hx : x.length ≤ 1048576) :
    Calls Try.prog 10 #[.pointer (some ⟨b, 0, none⟩), .slice B x.length d] v fun e v' => e = .returned (.int .i64 s.addE) ∧ LgOne w v' b (s.add x) := by
  obtain ⟨F, h⟩ := h
  exact (lgAdd_calls h.1 B d x hr hx).mono fun _ v' ⟨h1, h2⟩ => ⟨h1, more F v v', h2.1, fun k hk => hk.elim (h.2.1 k) (fun h' => Nat.le_trans h.2.2.size h'.1), h.2.2.trans (h2.2.below h.2.1 h.2.2.size)⟩
theorem LgOne.next (h : LgOne w v b s) :
    Calls Try.prog 11 #[.pointer (some ⟨b, 0, none⟩)] v fun e v' => ∃ A c, e = .returned (.tuple #[.int .i64 (s.nextN : Int), .slice A s.nextX.length c, .bool (!s.stop)]) ∧ Rd v' A s.nextX ∧ LgOne w v' b s.next := by
  obtain ⟨F, h⟩ := h
  exact (lgNext_calls' h.1).mono fun _ v' ⟨A, c, h1, h2, h3, h4⟩ => ⟨A, c, h1, h2.rd, F, h3, h.2.1, h.2.2.trans (h4.below h.2.1 h.2.2.size)⟩
theorem LgOne.ack (h : LgOne w v b s) (k : Int) (hk : I64 k) :
    Calls Try.prog 15 #[.pointer (some ⟨b, 0, none⟩), .int .i64 k] v fun e v' => e = .returned (.tuple #[.int .i64 (s.ackN k : Int), .bool (s.hit k)]) ∧ LgOne w v' b (s.ack k) := by
  obtain ⟨F, h⟩ := h
  exact (lgAck_calls h.1 k hk).mono fun _ v' ⟨h1, h3, h4⟩ => ⟨h1, F, h3, h.2.1, h.2.2.trans (h4.below h.2.1 h.2.2.size)⟩
theorem LgOne.out (h : LgOne w v b s) :
    Calls Try.prog 22 #[.pointer (some ⟨b, 0, none⟩)] v fun e v' => ∃ A c, e = .returned (.slice A s.n c) ∧ LgOne w v' b s := by
  have h0 := h
  obtain ⟨F, h⟩ := h
  exact (lgOut_calls h.1).mono fun _ v' ⟨A, c, h1, h2, h3⟩ => ⟨A, c, by rw [h1, Lg.out_len], h0.beside h3⟩
theorem LgOne.len (h : LgOne w v b s) : Calls Try.prog 24 #[.pointer (some ⟨b, 0, none⟩)] v fun e v' => e = .returned (.int .i64 (s.l.length : Int)) ∧ v' = v := by
  obtain ⟨F, h⟩ := h
  exact lgLen_calls h.1
theorem LgOne.clear (h : LgOne w v b s) :
    Calls Try.prog 19 #[.pointer (some ⟨b, 0, none⟩)] v fun e v' => e = .returned (.int .i64 (s.l.length : Int)) ∧ LgOne w v' b s.clear := by
  obtain ⟨F, h⟩ := h
  exact (lgClear_calls h.1).mono fun _ v' ⟨h1, h3, h4⟩ => ⟨h1, F, h3, h.2.1, h.2.2.trans (h4.below h.2.1 h.2.2.size)⟩
end
theorem num_calls (n : Int) (w : World) : Calls Try.prog 12 #[.int .i64 n] w fun e w' => e = .returned (.int .i64 n) ∧ w' = w := by
  go_enter Try.func12, Try.ntmps12
  go_wp2
  go_ret
  exact ⟨rfl, rfl⟩
theorem alive_calls (w : World) : Calls Try.prog 7 #[] w fun e w' => e = .returned (.bool true) ∧ Below w.heap.size w w' := by
  have hcc := fun (w : World) (C : Array Value) (n c : Nat) => Lib.run_convert_bytes_const (P := Try.prog) w 28 5 C n c Try.underlying28 Try.underlying5
  have NW := lgNew_calls 128 4 4 w
  have O1 := Lib.hid (LgOne.fresh (Below.refl w.heap.size w) 128 4 4)
  have NM := fun v => num_calls 0 v
  go_enter Try.func7, Try.ntmps7
  go_wp2_with fail
  refine NW.mono ?_
  rintro e w1 ⟨rfl, rfl⟩
  clear NW
  generalize w.alloc (.cells (lgc (Lg.new 128 4 4).m (Lg.new 128 4 4).W (Lg.new 128 4 4).Q 0 0 none 0 0) 53) = w1 at *
  have TK := O1.out.next
  rw [show (Lg.new 128 4 4).nextX = [] from rfl, show (Lg.new 128 4 4).nextN = 0 from rfl, show (Lg.new 128 4 4).stop = true from rfl, show (Lg.new 128 4 4).next = ⟨128, 4, 4, 0, 0, []⟩ from rfl] at TK
  clear O1
  go_wp2_with fail
  refine TK.mono ?_
  rintro e w2 ⟨A2, c2, rfl, _, h2⟩
  clear TK
  have P2 := (h2.beside (laidM_below w2 [97])).add (some ⟨w2.heap.size, 0, none⟩) 1 [97] (laidM_rd w2 [97]) (by decide)
  rw [show (⟨128, 4, 4, 0, 0, []⟩ : Lg).addE = 0 from rfl, show (⟨128, 4, 4, 0, 0, []⟩ : Lg).add [97] = ⟨128, 4, 4, 0, 0, [[97]]⟩ from rfl] at P2
  clear h2
  go_wp2_with fail
  refine P2.mono ?_
  rintro e w3 ⟨rfl, h3⟩
  clear P2
  have TK := h3.next
  rw [show (⟨128, 4, 4, 0, 0, [[97]]⟩ : Lg).nextX = [97] from rfl, show (⟨128, 4, 4, 0, 0, [[97]]⟩ : Lg).nextN = 0 from rfl, show (⟨128, 4, 4, 0, 0, [[97]]⟩ : Lg).stop = false from rfl] at TK
  clear h3
  go_wp2_with fail
  refine TK.mono ?_
  rintro e w5 ⟨A4, c4, rfl, rd, h5⟩
  have q4 : (convert 28 9 (.slice A4 1 c4)).run Try.prog w5 = .ok (.string ⟨#[97]⟩) w5 := run_conv w5 A4 c4 [97] rd
  have FI := Lib.hid h5.bel
  clear TK rd h5
  go_wp2_with fail
  refine (NM _).mono ?_
  rintro e w9 ⟨rfl, rfl⟩
  go_wp2
  go_ret
  exact ⟨rfl, FI.out⟩
end Go.Proofs.Yteofffnfafhgfaa

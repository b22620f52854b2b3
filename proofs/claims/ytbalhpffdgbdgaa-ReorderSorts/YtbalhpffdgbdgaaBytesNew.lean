/- A new row of bytes, plain or as a constant string's conversion leaves it; what a call that makes bytes gives; a byte's bits. No condition. -/
import Derived.Test.YtbalhpffdgbdgaaBytesApp
import Derived.Laws.BitsAllLaws
import Derived.Lib.SlBytesConst
import Derived.Lib.ConvBytes
namespace Go.Proofs.Ytbalhpffdgbdgaa
open Go.RowKit
set_option linter.unusedVariables false

/-- the world with one new row of bytes -/
def laid (w : World) (l : List UInt8) : World := w.alloc (.cells (l.map bv).toArray 5)
theorem laid_below (w : World) (l : List UInt8) : Below w.heap.size w (laid w l) := (Below.refl _ _).alloc (Nat.le_refl _) _
theorem laid_size (w : World) (l : List UInt8) : (laid w l).heap.size = w.heap.size + 1 := by unfold laid; simp
theorem laid_block (w : World) (l : List UInt8) : (laid w l).heap[w.heap.size]? = some (.cells (l.map bv).toArray 5 (0, 0)) := heap_alloc_new w _
theorem laid_rd (w : World) (l : List UInt8) : Rd (laid w l) (some ⟨w.heap.size, 0, none⟩) l := fun _ => ⟨_, _, rfl, fun j hj => by
  rw [Nat.zero_add, cell_of_row _ _ j _ _ (0, 0) (laid_block w l)]
  simp [List.getElem?_eq_getElem hj]⟩
theorem laid_own (w : World) (l : List UInt8) (hl : l.length ≤ 1048576) : Own (laid w l) w.heap.size (some ⟨w.heap.size, 0, none⟩) l.length l :=
  ⟨by simp, .inr ⟨_, _, _, rfl, Nat.le_refl _, laid_block w l, Nat.le_refl _, by unfold maxLen; omega, by simp, by simp [List.take_of_length_le]⟩⟩
/-- the world with one new row of bytes, as a constant string's conversion leaves it: marked -/
def laidM (w : World) (l : List UInt8) : World := w.alloc (.cells (l.map bv).toArray 5 (l.length, l.length + 1))
theorem laidM_below (w : World) (l : List UInt8) : Below w.heap.size w (laidM w l) := (Below.refl _ _).alloc (Nat.le_refl _) _
theorem laidM_size (w : World) (l : List UInt8) : (laidM w l).heap.size = w.heap.size + 1 := by unfold laidM; simp
theorem laidM_rd (w : World) (l : List UInt8) : Rd (laidM w l) (some ⟨w.heap.size, 0, none⟩) l := fun _ => ⟨_, _, rfl, fun j hj => by
  unfold laidM
  rw [Nat.zero_add, cell_of_row _ _ j _ _ (l.length, l.length + 1) (heap_alloc_new w _)]
  simp [List.getElem?_eq_getElem hj]⟩

/- '[]byte(s)' of a string that is no constant -/
theorem bw_below (w : World) (s : ByteArray) : Below w.heap.size w (Lib.bytesWorld w 5 s) :=
  ⟨rfl, rfl, rfl, by rw [Lib.bytesWorld_size]; omega, fun k hk => Lib.bytesWorld_at_old w 5 s k hk⟩
theorem bw_rd (w : World) (l : List UInt8) : Rd (Lib.bytesWorld w 5 ⟨l.toArray⟩) (some ⟨w.heap.size, 0, none⟩) l := fun _ => ⟨_, _, rfl, fun j hj => by
  rw [Nat.zero_add, Lib.bytesWorld_cell w 5 ⟨l.toArray⟩ j (by simpa [ByteArray.size] using hj)]
  rfl⟩
theorem run_bytes (v : World) (x : List UInt8) : (convert 9 28 (.string ⟨x.toArray⟩)).run Try.prog v = .ok (.slice (some ⟨v.heap.size, 0, none⟩) x.length (grownCap v x.length 0 5)) (Lib.bytesWorld v 5 ⟨x.toArray⟩) :=
  Lib.run_convert_string_bytes (P := Try.prog) v 9 28 5 ⟨x.toArray⟩ Try.underlying9 Try.underlying28 Try.underlying5

/-- The call returns a slice that reads as l; nothing that was there has turned. -/
def Gives (l : List UInt8) (w : World) (e : Ending) (w' : World) : Prop :=
  ∃ A c, e = .returned (.slice A l.length c) ∧ Rd w' A l ∧ Below w.heap.size w w'
/-- The call returns a slice that reads as r.1, and the number r.2; nothing that was there has turned. -/
def Gives2 (r : List UInt8 × Int) (w : World) (e : Ending) (w' : World) : Prop :=
  ∃ A c, e = .returned (.tuple #[.slice A r.1.length c, .int .i64 r.2]) ∧ Rd w' A r.1 ∧ Below w.heap.size w w'

/-- The call returns a new row of the bytes l; nothing that was there has turned. -/
def GivesOwn (l : List UInt8) (w : World) (e : Ending) (w' : World) : Prop :=
  ∃ A c, e = .returned (.slice A l.length c) ∧ Own w' w.heap.size A c l ∧ Below w.heap.size w w'
theorem gives2_bad {r : List UInt8 × Int} {n : Int} {w w' : World} (h : r = ([], n)) (hb : Below w.heap.size w w') : Gives2 r w (.returned (.tuple #[.slice none 0 0, .int .i64 n])) w' :=
  ⟨none, 0, by rw [h]; rfl, by rw [h]; exact Rd.nil _ _, hb⟩
theorem gives2_good {r : List UInt8 × Int} {acc : List UInt8} {A : Option Addr} {c : Nat} {w w' : World} (h : r = (acc, 0)) (hr : Rd w' A acc) (hb : Below w.heap.size w w') : Gives2 r w (.returned (.tuple #[.slice A acc.length c, .int .i64 0])) w' :=
  ⟨A, c, by rw [h], by rw [h]; exact hr, hb⟩

/-- As Gives2; and what is returned lies in new memory. -/
def Gives2Own (r : List UInt8 × Int) (w : World) (e : Ending) (w' : World) : Prop :=
  ∃ A c, e = .returned (.tuple #[.slice A r.1.length c, .int .i64 r.2]) ∧ Own w' w.heap.size A c r.1 ∧ Below w.heap.size w w'
theorem Gives2Own.gives {r : List UInt8 × Int} {w : World} {e : Ending} {w' : World} (h : Gives2Own r w e w') : Gives2 r w e w' := by
  obtain ⟨A, c, h1, h2, h3⟩ := h
  exact ⟨A, c, h1, h2.rd, h3⟩
theorem GivesOwn.gives {l : List UInt8} {w : World} {e : Ending} {w' : World} (h : GivesOwn l w e w') : Gives l w e w' := by
  obtain ⟨A, c, h1, h2, h3⟩ := h
  exact ⟨A, c, h1, h2.rd, h3⟩
theorem own2_bad {r : List UInt8 × Int} {n : Int} {w w' : World} (h : r = ([], n)) (hb : Below w.heap.size w w') : Gives2Own r w (.returned (.tuple #[.slice none 0 0, .int .i64 n])) w' :=
  ⟨none, 0, by rw [h]; rfl, by rw [h]; exact Own.nil _ _, hb⟩
theorem own2_good {r : List UInt8 × Int} {acc : List UInt8} {A : Option Addr} {c : Nat} {w w' : World} (h : r = (acc, 0)) (hr : Own w' w.heap.size A c acc) (hb : Below w.heap.size w w') : Gives2Own r w (.returned (.tuple #[.slice A acc.length c, .int .i64 0])) w' :=
  ⟨A, c, by rw [h], by rw [h]; exact hr, hb⟩

/-- one new row of the bytes m, appended onto a row of the call's own: all that a walk wants, ahead of it -/
theorem app_new (w : World) (base : Nat) (A : Option Addr) (c : Nat) (xs m : List UInt8) (hown : Own w base A c xs) (hbase : base ≤ w.heap.size) (hby : xs.length + m.length ≤ 140737488355328) :
    ∃ A' c' w', (∀ ty, (Builtin.append_ #[28, 28] ty #[.slice A xs.length c, .slice (some ⟨w.heap.size, 0, none⟩) m.length m.length]).run Try.prog (laid w m) = .ok (.slice A' (xs ++ m).length c') w') ∧ Own w' base A' c' (xs ++ m) ∧ Below base w w' := by
  obtain ⟨A', c', w', h1, h2, h3⟩ := run_app (laid w m) base A c xs (hown.alloc _) (some ⟨w.heap.size, 0, none⟩) m.length m (laid_rd w m) hby (by rw [laid_size]; omega)
  exact ⟨A', c', w', h1, h2, ((laid_below w m).mono hbase).trans h3⟩

theorem u8_xor_byte (c d : UInt8) : bits .xor .u8 (c.toNat : Int) (d.toNat : Int) = ((c ^^^ d).toNat : Int) := by
  have h1 : c.toNat < 256 := c.toNat_lt
  have h2 : d.toNat < 256 := d.toNat_lt
  rw [u8_xor_nat _ _ (by omega) (by omega)]
  simp
theorem byte_ne {c d : UInt8} (h : c ≠ d) : ((c.toNat : Int) == (d.toNat : Int)) = false := by
  exact beq_eq_false_iff_ne.mpr (fun e => h (UInt8.toNat_inj.mp (by omega)))
theorem byte_eq {c d : UInt8} (h : c = d) : ((c.toNat : Int) == (d.toNat : Int)) = true := by rw [h]; simp
end Go.Proofs.Ytbalhpffdgbdgaa

/- A reader of the program in memory: its fields and its buffer; New, sumSize and judge. Condition: what was received is at most 1000 octets. -/
import Derived.Test.YtnogdlekijpdhaaFraPlain
import Derived.Test.YtnogdlekijpdhaaBytesOnly
import Derived.BigQuiet
namespace Go.Proofs.Ytnogdlekijpdhaa
open Go.RowKit
open Fcs Oct Fra
set_option linter.unusedVariables false

/-- what a call tells: a number and octets in new memory -/
def Told (r : Int × List UInt8) (w : World) (e : Ending) (w' : World) : Prop :=
  ∃ B d, e = .returned (.tuple #[.int .i64 r.1, .slice B r.2.length d]) ∧ Own w' w.heap.size B d r.2 ∧ Below w.heap.size w w'
theorem told_none {r : Int × List UInt8} {n : Int} {w w' : World} (h : r = (n, [])) (hb : Below w.heap.size w w') : Told r w (.returned (.tuple #[.int .i64 n, .slice none 0 0])) w' :=
  ⟨none, 0, by rw [h]; rfl, by rw [h]; exact Own.nil _ _, hb⟩

/-- the cells of a reader of the program -/
def pcells (L : Nat) (wide : Bool) (n : Nat) (A : Option Addr) (m c : Nat) : Array Value := #[.int .i64 (L : Int), .bool wide, .int .i64 (n : Int), .slice A m c]
/-- The block b holds a reader of the program in the state s; it and its buffer lie in F. -/
def PR (w : World) (F : Nat → Prop) (b L : Nat) (wide : Bool) (s : St) : Prop :=
  ∃ A c, w.heap[b]? = some (.cells (pcells L wide s.num A s.acc.length c) 45 (0, 0)) ∧ Own w 0 A c s.acc ∧ blk A ≠ some b ∧ F b ∧ (∀ k, blk A = some k → F k) ∧ ∀ k, F k → k < w.heap.size
theorem PR.only {F G : Nat → Prop} {w w' : World} {b L : Nat} {wide : Bool} {s : St} (h : PR w F b L wide s) (o : Only G w w') (hd : ∀ k, F k → ¬ G k) : PR w' F b L wide s := by
  obtain ⟨A, c, h1, h2, h3, h4, h5, h6⟩ := h
  exact ⟨A, c, (o.block b (h6 b h4) (hd b h4)).trans h1, h2.only o (fun k hk => hd k (h5 k hk)), h3, h4, h5, fun k hk => Nat.lt_of_lt_of_le (h6 k hk) o.size⟩
/-- F, and what is new -/
def more (F : Nat → Prop) (w w' : World) : Nat → Prop := fun k => F k ∨ (w.heap.size ≤ k ∧ k < w'.heap.size)

theorem pcell {w : World} {b L : Nat} {wide : Bool} {n : Nat} {A : Option Addr} {m c : Nat} {t : TypeId} (h : w.heap[b]? = some (.cells (pcells L wide n A m c) t (0, 0))) :
    w.cell? ⟨b, 0, none⟩ = some (.int .i64 (L : Int)) ∧ w.cell? ⟨b, 1, none⟩ = some (.bool wide) ∧ w.cell? ⟨b, 2, none⟩ = some (.int .i64 (n : Int)) ∧ w.cell? ⟨b, 3, none⟩ = some (.slice A m c) := by
  refine ⟨?_, ?_, ?_, ?_⟩ <;> rw [cell_of_row w b _ _ _ (0, 0) h] <;> rfl
theorem pset {w : World} {b L : Nat} {wide : Bool} {n : Nat} {A : Option Addr} {m c : Nat} {t : TypeId} (h : w.heap[b]? = some (.cells (pcells L wide n A m c) t (0, 0))) (n' : Nat) :
    (w.setCell ⟨b, 2, none⟩ (.int .i64 (n' : Int))).heap[b]? = some (.cells (pcells L wide n' A m c) t (0, 0)) := heap_setCell_same w b 2 _ t _ h
theorem pset3 {w : World} {b L : Nat} {wide : Bool} {n : Nat} {A : Option Addr} {m c : Nat} {t : TypeId} (h : w.heap[b]? = some (.cells (pcells L wide n A m c) t (0, 0))) (A' : Option Addr) (m' c' : Nat) :
    (w.setCell ⟨b, 3, none⟩ (.slice A' m' c')).heap[b]? = some (.cells (pcells L wide n A' m' c') t (0, 0)) := heap_setCell_same w b 3 _ t _ h

theorem sumSize_calls (wide : Bool) (w : World) : Calls Try.prog 19 #[.bool wide] w fun e w' => e = .returned (.int .i64 (if wide then 4 else 2)) ∧ w = w' := by
  cases wide
  all_goals
    go_enter Try.func19, Try.ntmps19
    go_wp2
    go_ret
    exact ⟨rfl, rfl⟩

/-- how long a frame may be -/
def most (n : Int) : Nat := (min (max n 1) 65536).toNat
def limit (n : Int) (wide : Bool) : Nat := most n + sumN wide
theorem most_le (n : Int) : 1 ≤ most n ∧ most n ≤ 65536 := by unfold most; omega
theorem most_int (n : Int) : min (max n 1) 65536 = (most n : Int) := by unfold most; omega

theorem new_calls (n : Int) (wide : Bool) (w : World) : Calls Try.prog 11 #[.int .i64 n, .bool wide] w fun e w' => e = .returned (.pointer (some ⟨w.heap.size, 0, none⟩)) ∧ w.alloc (.cells (pcells (limit n wide) wide 0 none 0 0) 45) = w' := by
  have h1 : ((limit n wide : Nat) : Int) = (most n : Int) + (if wide then 4 else 2) := by cases wide <;> simp [limit, sumN]
  have h2 := Lib.hid (most_int n)
  unfold pcells
  rw [h1]
  clear h1
  have hn : n < 1 ∨ 65536 < n ∨ (1 ≤ n ∧ n ≤ 65536) := by omega
  cases wide
  all_goals
    rcases hn with hn | hn | ⟨hn, hn'⟩
    all_goals
      go_enter Try.func11, Try.ntmps11
      go_wp2_with fail
      refine (sumSize_calls _ w).mono ?_
      rintro e w' ⟨rfl, rfl⟩
      go_wp2
      go_ret
      refine ⟨rfl, ?_⟩
      rw [← h2.out]
      congr
      omega
end Go.Proofs.Ytnogdlekijpdhaa

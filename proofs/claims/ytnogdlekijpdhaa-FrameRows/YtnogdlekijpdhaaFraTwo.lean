/- What FrameRows builds: octets and strings side by side; and the law where it has nothing to look at. No condition. -/
import Derived.Test.YtnogdlekijpdhaaFraAlive
import Derived.Test.YtnogdlekijpdhaaByteBit
import Derived.Test.YtnogdlekijpdhaaBytesRows
import Derived.Deep.RegionHeld
namespace Go.Proofs.Ytnogdlekijpdhaa
open Go.RowKit
open Fcs Oct Fra
set_option linter.unusedVariables false

/-- the octets bs tell the bodies ss, and end where a frame may begin -/
def Inv (L : Nat) (wide : Bool) (bs : List UInt8) (ss : List (List UInt8)) : Prop := told L wide .out bs = ss ∧ (after L .out bs = .out ∨ after L .out bs = .rd false [])
def Inv1 (L : Nat) (wide : Bool) (bs : List UInt8) (ss : List (List UInt8)) : Prop := told L wide .out bs = ss ∧ after L .out bs = .rd false []
theorem inv_nil (L : Nat) (wide : Bool) : Inv L wide [] [] := ⟨rfl, .inl rfl⟩
theorem inv_frame {L : Nat} {wide : Bool} {bs : List UInt8} {ss : List (List UInt8)} (h : Inv L wide bs ss) (x : List UInt8) : Inv1 L wide (bs ++ frame wide x) (ss ++ fits L wide x) := by
  refine ⟨?_, by rw [after_append]; exact after_frame _ _⟩
  rw [told_append, h.1]
  rcases h.2 with e | e <;> rw [e]
  · rw [told_frame_out]
  · rw [told_frame]
theorem inv_flag {L : Nat} {wide : Bool} {bs : List UInt8} {ss : List (List UInt8)} (h : Inv1 L wide bs ss) : Inv1 L wide (bs ++ [126]) ss := by
  refine ⟨?_, ?_⟩
  · rw [told_append, h.1, h.2]
    show ss ++ (good wide (.rd false []) 126 ++ []) = ss
    rw [good_flag0]
    simp
  · rw [after_append, h.2]
    show next L (.rd false []) 126 = _
    exact next_flag _
theorem Inv1.inv {L : Nat} {wide : Bool} {bs : List UInt8} {ss : List (List UInt8)} (h : Inv1 L wide bs ss) : Inv L wide bs ss := ⟨h.1, .inr h.2⟩

/-- the two rows that the law lets grow -/
def Two (W : World) (A : Option Addr) (c : Nat) (bs : List UInt8) (B : Option Addr) (d : Nat) (ss : List (List UInt8)) (wr : World) : Prop :=
  Own wr W.heap.size A c bs ∧ SOwn wr W.heap.size B d ss ∧ (∀ j, blk A = some j → blk B ≠ some j) ∧ Below W.heap.size W wr
theorem Two.below {W : World} {A : Option Addr} {c : Nat} {bs : List UInt8} {B : Option Addr} {d : Nat} {ss : List (List UInt8)} {wr w' : World} (h : Two W A c bs B d ss wr) (b : Below wr.heap.size wr w') : Two W A c bs B d ss w' :=
  ⟨h.1.below b, h.2.1.below b, h.2.2.1, h.2.2.2.trans (b.mono h.2.2.2.size)⟩
/-- octets are appended -/
theorem Two.app {W : World} {A : Option Addr} {c : Nat} {bs : List UInt8} {B : Option Addr} {d : Nat} {ss : List (List UInt8)} {wr : World} (h : Two W A c bs B d ss wr) (C : Option Addr) (e : Nat) (m : List UInt8) (hr : Rd wr C m) (hby : bs.length + m.length ≤ 1048576) (hm : 0 < m.length) :
    ∃ A' c' w', (∀ ty, (Builtin.append_ #[22, 22] ty #[.slice A bs.length c, .slice C m.length e]).run Try.prog wr = .ok (.slice A' (bs ++ m).length c') w') ∧ Two W A' c' (bs ++ m) B d ss w' := by
  obtain ⟨h1, h2, h3, h4⟩ := h
  obtain ⟨A', c', w', run, own, on, kin⟩ := app_src wr W.heap.size A c bs h1 C e m hr h4.size (by omega) hm
  refine ⟨A', c', w', run, own, h2.only on (fun j hj hA => h3 j hA hj), fun j hj hB => ?_, h4.trans (on.below (fun j hj => (h1.blk_ge j hj).1) h4.size)⟩
  rcases kin j hj with h | h
  · exact h3 j h hB
  · have := (h2.blk_ge j hB).2
    omega
/-- a new row of octets is appended -/
theorem Two.app_new {W : World} {A : Option Addr} {c : Nat} {bs : List UInt8} {B : Option Addr} {d : Nat} {ss : List (List UInt8)} {wr : World} (h : Two W A c bs B d ss wr) (m : List UInt8) (hby : bs.length + m.length ≤ 1048576) (hm : 0 < m.length) :
    ∃ A' c' w', (∀ ty, (Builtin.append_ #[22, 22] ty #[.slice A bs.length c, .slice (some ⟨wr.heap.size, 0, none⟩) m.length m.length]).run Try.prog (laid wr m) = .ok (.slice A' (bs ++ m).length c') w') ∧ Two W A' c' (bs ++ m) B d ss w' :=
  (h.below (laid_below wr m)).app (some ⟨wr.heap.size, 0, none⟩) m.length m (laid_rd wr m) hby hm
/-- a string is appended -/
theorem Two.appS {W : World} {A : Option Addr} {c : Nat} {bs : List UInt8} {B : Option Addr} {d : Nat} {ss : List (List UInt8)} {wr : World} (h : Two W A c bs B d ss wr) (s : List UInt8) (hby : ss.length ≤ 1048576) :
    ∃ B' d' w', (∀ ty, (Builtin.append_ #[35, 35] ty #[.slice B ss.length d, .slice (some ⟨wr.heap.size, 0, none⟩) 1 1]).run Try.prog (laidS wr s) = .ok (.slice B' (ss ++ [s]).length d') w') ∧ Two W A c bs B' d' (ss ++ [s]) w' := by
  obtain ⟨h1, h2, h3, h4⟩ := h
  obtain ⟨B', d', w', run, own, on, kin⟩ := appS_only wr W.heap.size B d ss s h2 h4.size hby
  refine ⟨B', d', w', run, h1.only on (fun j hj hB => h3 j hj hB), own, fun j hj hB => ?_, h4.trans (on.below (fun j hj => (h2.blk_ge j hj).1) h4.size)⟩
  rcases kin j hB with h | h
  · exact h3 j hj h
  · have := (h1.blk_ge j hj).2
    omega
/-- behind k of the rows -/
def RwRel (W : World) (L : Nat) (wide : Bool) (N : Nat) (v s i : Value) (wr : World) : Prop :=
  ∃ (k : Nat) (A : Option Addr) (c : Nat) (bs : List UInt8) (B : Option Addr) (d : Nat) (ss : List (List UInt8)), k ≤ N ∧ i = .int .i64 k ∧ v = .slice A bs.length c ∧ s = .slice B ss.length d ∧ Two W A c bs B d ss wr ∧ Inv L wide bs ss ∧ bs.length ≤ 2020 * k ∧ ss.length ≤ k
/-- t Flags are still to come -/
def FlRel (W : World) (L : Nat) (wide : Bool) (B : Option Addr) (d : Nat) (ss1 ss : List (List UInt8)) (m : Nat) (v i : Value) (wr : World) : Prop :=
  ∃ (t : Nat) (A : Option Addr) (c : Nat) (bs : List UInt8), t ≤ 3 ∧ i = .int .i64 t ∧ v = .slice A bs.length c ∧ Two W A c bs B d ss wr ∧ Inv1 L wide bs ss1 ∧ bs.length + t ≤ m

theorem FrameRows_far (A : Option Addr) (n c : Nat) (B : Option Addr) (m d : Nat) (q : Int) (wide : Bool) (w : World) (hn : n ≤ 9223372036854775807) (hm : m ≤ 9223372036854775807)
    (h : 20 < n ∨ (n ≤ 20 ∧ m < n) ∨ (n ≤ 20 ∧ ¬ m < n ∧ q < 1) ∨ (n ≤ 20 ∧ ¬ m < n ∧ ¬ q < 1 ∧ 300 < q)) :
    Calls Try.prog 5 #[.slice A n c, .slice B m d, .int .i64 q, .bool wide] w fun e w' => e = .returned (.bool true) ∧ Below w.heap.size w w' := by
  rcases h with h | ⟨h0, h⟩ | ⟨h0, h1, h⟩ | ⟨h0, h1, h2, h⟩
  all_goals
    go_enter Try.func5, Try.ntmps5
    go_wp2_with fail
    refine (alive_calls w).mono ?_
    rintro e w' ⟨rfl, hb⟩
    go_wp2
    go_ret
    exact ⟨rfl, hb⟩
end Go.Proofs.Ytnogdlekijpdhaa

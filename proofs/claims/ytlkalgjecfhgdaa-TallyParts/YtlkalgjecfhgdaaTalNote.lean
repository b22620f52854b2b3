/- Sum, Clear and Note of a window of the program. No condition. -/
import Derived.Test.YtlkalgjecfhgdaaTalMem
import Derived.BigQuiet
import Derived.StillTailTactics
namespace Go.Proofs.Ytlkalgjecfhgdaa
open Go.RowKit
set_option linter.unusedVariables false

theorem sum_calls {w : World} {b n : Nat} {q : List Nat} (h : PW w b n q) : Calls Try.prog 13 #[.pointer (some ⟨b, 0, none⟩)] w fun e w' => e = .returned (cx (gs q) (bs q)) ∧ w' = w := by
  obtain ⟨A, B, R, h1, h2, h3, h4, h5, h6⟩ := h
  obtain ⟨_, _, c2, _⟩ := wcell h4 h6
  clear h1 h2 h3 h4 h5 h6
  go_enter Try.func13, Try.ntmps13
  go_wp2
  go_ret
  exact ⟨rfl, rfl⟩
theorem zcells_one (n : Int) : (zcells n).all (·.oneCell') = true := by kernel_rfl
theorem zcells_size (n : Int) : (zcells n).size = 1003 := by kernel_rfl
theorem window_size : (Try.prog.info? 44).map (·.size) = some 1003 := by kernel_rfl
theorem wcells_size {n next : Nat} {ev : List Nat} {g d : Int} (h : ev.length = 1000) : (wcells n ev next g d).size = 1003 := by unfold wcells; simp [h]
theorem only_setRow (w : World) (b : Nat) (cs : Array Value) : Only (fun k => k = b) w (w.setRow b cs) :=
  ⟨rfl, rfl, rfl, by simp, fun k hk h => setRow_other w b k _ h⟩
/-- a whole window stored -/
theorem wpList_clear {ops : Array Oper} {rest : List Oper} {o : Oper} {a : Act} {w : World} {Q : Exit → Act → World → Prop} (hgd : o.guard = none) (x y : Operand) (ho : o.op = .store 44 x y)
    (b : Nat) (n : Int) (hx : a.eval x = .pointer (some ⟨b, 0, none⟩)) (hy : a.eval y = .agg (zcells n)) (old : Array Value) (hb : w.heap[b]? = some (.cells old 44 (0, 0))) (hs : old.size = 1003)
    (h : wpList Try.prog ops Q rest (a.put o.dst undef) (w.setRow b (zcells n))) : wpList Try.prog ops Q (o :: rest) a w :=
  wpList_plain hgd fun _ hK => wp_store_row _ x y ho b _ hx hy _ old hb (by rw [zcells_size]; exact window_size) (by rw [zcells_size]; exact hs) (zcells_one n) (hK _ _ h)
theorem clear_calls {w : World} {b n : Nat} {q : List Nat} (h : PW w b n q) (hn : 1 ≤ n ∧ n ≤ 1000) : Calls Try.prog 10 #[.pointer (some ⟨b, 0, none⟩)] w fun e w' => e = .returned (.tuple #[]) ∧ PW w' b n (List.replicate n 0) ∧ Only (fun k => k = b) w w' := by
  obtain ⟨A, B, R, h1, h2, h3, h4, h5, h6⟩ := h
  obtain ⟨c0, _⟩ := wcell h4 h6
  have hs := wcells_size (n := n) (next := A.length) (g := gs q) (d := bs q) h4
  have FIN := Lib.hid (show PW (w.setRow b (zcells (n : Int))) b n (List.replicate n 0) ∧ Only (fun k => k = b) w (w.setRow b (zcells (n : Int))) from
    ⟨PW.empty hn.1 hn.2 (setRow_heap w b _ _ _ _ h6), only_setRow w b _⟩)
  clear h1 h2 h3 h4 h5 hn
  have H6 := Lib.hid h6
  have HS := Lib.hid hs
  clear h6 hs
  go_enter Try.func10, Try.ntmps10
  go_wp2_with (first | refine wpList_window rfl _ rfl _ rfl ?_ | refine wpList_clear rfl _ _ rfl _ _ rfl rfl _ H6.out HS.out ?_)
  go_end0
  exact ⟨rfl, FIN.out⟩
end Go.Proofs.Ytlkalgjecfhgdaa

/- The example of the document, walked. No condition. -/
import Derived.Test.YtlkalgjecfhgdaaTalNote2
import Derived.Test.YtlkalgjecfhgdaaTalParts
namespace Go.Proofs.Ytlkalgjecfhgdaa
open Go.RowKit
set_option linter.unusedVariables false

theorem alive_calls (w : World) : Calls Try.prog 6 #[] w fun e w' => e = .returned (.bool true) ∧ Below w.heap.size w w' := by
  have hz0 : FloatKind.f64.format.order (fl 0) 0 = some .eq := by decide +kernel
  have hz1 : FloatKind.f64.format.order (fl 1) 4607182418800017408 = some .eq := by decide +kernel
  have hz2 : FloatKind.f64.format.order (fl 2) 4611686018427387904 = some .eq := by decide +kernel
  have hz3 : FloatKind.f64.format.order (fl 3) 4613937818241073152 = some .eq := by decide +kernel
  have hx : ∀ a b, cx a b = .complex .f64 (fl a) (fl b) := fun _ _ => rfl
  obtain ⟨w1, hw1⟩ : ∃ w1, w.alloc (.cells (zcells (siz 3 : Int)) 44) = w1 := ⟨_, rfl⟩
  have hp : PW w1 w.heap.size 3 (List.replicate 3 0) := by
    subst hw1
    exact PW.empty (by decide) (by decide) (heap_alloc_new w _)
  have hB : Below w.heap.size w w1 := by subst hw1; exact (Below.refl _ _).alloc (Nat.le_refl _) _
  have s1 : Calls Try.prog 13 #[.pointer (some ⟨w.heap.size, 0, none⟩)] w1 fun e w' => e = .returned (cx 0 0) ∧ w' = w1 := sum_calls hp
  have n1 := note_calls (old := 0) (q := [0, 0]) hp (by decide) false
  have o1 : ∀ w, Calls Try.prog 15 #[.int .i64 2, .int .i64 3] w fun e w' => e = .returned (cx 2 3) ∧ w' = w := fun w => of_calls 2 3 w
  have hnew := new_calls 3 w
  rw [hw1] at hnew
  clear hw1 hp
  have HB := Lib.hid hB
  clear hB
  go_enter Try.func6, Try.ntmps6
  go_wp2_with fail
  refine hnew.mono ?_
  rintro e w' ⟨rfl, rfl⟩
  clear hnew
  go_wp2_with fail
  refine s1.mono ?_
  rintro e w' ⟨rfl, rfl⟩
  clear s1
  go_wp2_with fail
  refine n1.mono ?_
  rintro e w2 ⟨rfl, hp2, on⟩
  clear n1
  have s2 : Calls Try.prog 13 #[.pointer (some ⟨w.heap.size, 0, none⟩)] w2 fun e w' => e = .returned (cx 0 1) ∧ w' = w2 := sum_calls hp2
  have FIN := Lib.hid (show Below w.heap.size w w2 from HB.out.trans (on.below (fun k hk => by omega) HB.out.size))
  clear hp2 on HB
  go_wp2_with fail
  refine s2.mono ?_
  rintro e w' ⟨rfl, rfl⟩
  clear s2
  go_wp2_with fail
  refine (o1 _).mono ?_
  rintro e w' ⟨rfl, rfl⟩
  go_wp2
  go_ret
  exact ⟨rfl, FIN.out⟩
end Go.Proofs.Ytlkalgjecfhgdaa

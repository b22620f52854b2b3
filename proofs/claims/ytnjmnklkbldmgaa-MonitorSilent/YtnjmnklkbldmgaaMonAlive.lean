/- The example of the document and a bad line, walked. No condition. -/
import Derived.Test.YtnjmnklkbldmgaaMonNote
namespace Go.Proofs.Ytnjmnklkbldmgaa
open Go.RowKit
set_option linter.unusedVariables false

theorem alive_calls (w : World) : Calls Try.prog 8 #[] w fun e w' => e = .returned (.bool true) ∧ Below w.heap.size w w' := by
  go_enter Try.func8, Try.ntmps8
  go_wp2_with fail
  refine (mnew_calls 2 1 9 w).mono ?_
  rintro e w1 ⟨rfl, p1, b1, _⟩
  have B1 := Lib.hid b1
  clear b1
  generalize hb : w.heap.size + 1 = b at p1 ⊢
  have HB := Lib.hid hb
  clear hb
  have s1 : Calls Try.prog 15 #[.pointer (some ⟨b, 0, none⟩)] w1 fun e w' => e = .returned (.int .i64 0) ∧ w' = w1 := mstate_calls p1
  have n1 := mnote_calls p1 false (fun e => by cases e)
  rw [show ((mnew 2 1 9).note false).st = 1 by decide] at n1
  clear p1
  go_wp2_with fail
  refine s1.mono ?_
  rintro e w' ⟨rfl, rfl⟩
  clear s1
  go_wp2_with fail
  refine n1.mono ?_
  rintro e w2 ⟨rfl, p2, o2⟩
  clear n1
  have n2 := mnote_calls p2 false (fun e => by cases e)
  rw [show (((mnew 2 1 9).note false).note false).st = 2 by decide] at n2
  clear p2
  have O2 := Lib.hid o2
  clear o2
  go_wp2_with fail
  refine n2.mono ?_
  rintro e w3 ⟨rfl, p3, o3⟩
  clear n2
  have n3 := mnote_calls p3 true (fun _ => by decide)
  rw [show ((((mnew 2 1 9).note false).note false).note true).st = 0 by decide] at n3
  clear p3
  have O3 := Lib.hid o3
  clear o3
  go_wp2_with fail
  refine n3.mono ?_
  rintro e w4 ⟨rfl, p4, o4⟩
  clear n3
  have FIN := Lib.hid (show Below w.heap.size w w4 from by
    have h2 := B1.out.size
    have hb := HB.out
    have k1 := B1.out.trans (O2.out.below (fun k hk => by omega) h2)
    have k2 := k1.trans (O3.out.below (fun k hk => by omega) k1.size)
    exact k2.trans (o4.below (fun k hk => by omega) k2.size))
  clear p4 o4 O2 O3 B1 HB
  go_wp2
  go_ret
  exact ⟨rfl, FIN.out⟩
end Go.Proofs.Ytnjmnklkbldmgaa

/- A monitor of the program: what it is, plainly; in memory; New, State, Sum. No condition. -/
import Derived.Test.YtnjmnklkbldmgaaMonWinNote
import Derived.Test.YtnjmnklkbldmgaaMonBuild
import Derived.Test.YtnjmnklkbldmgaaTalRep
import Derived.Test.YtnjmnklkbldmgaaTalAdd
namespace Go.Proofs.Ytnjmnklkbldmgaa
open Go.RowKit
set_option linter.unusedVariables false

/-- a monitor, plainly -/
structure Mo where
  bad : Int
  good : Int
  silent : Int
  st : Int
  L : List Bool
  run : Int
  quiet : Int
structure Mo.ok (m : Mo) : Prop where
  bad : 1 ≤ m.bad ∧ m.bad ≤ 16
  good : 1 ≤ m.good ∧ m.good ≤ 16
  silent : 1 ≤ m.silent ∧ m.silent ≤ 1073741824
  st : 0 ≤ m.st ∧ m.st ≤ 2
  short : m.L.length ≤ 16
  run : 0 ≤ m.run ∧ m.run ≤ 4294967295
  quiet : 0 ≤ m.quiet ∧ m.quiet ≤ 1073741824
/-- a new one -/
def mnew (bad good silent : Int) : Mo := ⟨min (max bad 1) 16, min (max good 1) 16, min (max silent 1) 1073741824, 0, [], 0, 0⟩
theorem mnew_ok (bad good silent : Int) : (mnew bad good silent).ok := by
  constructor <;> simp only [mnew] <;> first | omega | simp
/-- what an event is judged as -/
def Mo.judge (m : Mo) : Mo :=
  if m.st ≠ 0 ∧ m.good ≤ m.run then { m with L := [], st := 0 }
  else if m.bad ≤ bl m.L then { m with st := 2 }
  else if m.st = 0 ∧ m.bad ≤ 2 * bl m.L then { m with st := 1 }
  else m
def Mo.hear (m : Mo) (ok : Bool) : Mo := { m with L := nx 16 m.L ok, run := if ok then m.run + 1 else 0, quiet := 0 }
def Mo.note (m : Mo) (ok : Bool) : Mo := (m.hear ok).judge
def Mo.pass (m : Mo) (n : Int) : Mo :=
  if m.silent ≤ min (m.quiet + min (max n 0) 1073741824) 1073741824 then { m with quiet := min (m.quiet + min (max n 0) 1073741824) 1073741824, st := 2, run := 0 }
  else { m with quiet := min (m.quiet + min (max n 0) 1073741824) 1073741824 }
theorem Mo.judge_ok {m : Mo} (h : m.ok) : m.judge.ok := by
  unfold Mo.judge
  have h4 := h.st
  split
  · exact ⟨h.bad, h.good, h.silent, ⟨Int.le_refl _, by dsimp only; omega⟩, Nat.zero_le _, h.run, h.quiet⟩
  · split
    · exact ⟨h.bad, h.good, h.silent, ⟨by dsimp only; omega, Int.le_refl _⟩, h.short, h.run, h.quiet⟩
    · split
      · exact ⟨h.bad, h.good, h.silent, ⟨by dsimp only; omega, by dsimp only; omega⟩, h.short, h.run, h.quiet⟩
      · exact h
theorem Mo.hear_ok {m : Mo} (h : m.ok) (ok : Bool) (hr : ok = true → m.run < 4294967295) : (m.hear ok).ok := by
  refine ⟨h.bad, h.good, h.silent, h.st, nx_length h.short ok, ?_, ⟨Int.le_refl _, by unfold Mo.hear; dsimp only; omega⟩⟩
  have h1 := h.run
  unfold Mo.hear
  cases ok
  · exact ⟨Int.le_refl _, by show (0 : Int) ≤ _; omega⟩
  · have := hr rfl
    exact ⟨by show 0 ≤ m.run + 1; omega, by show m.run + 1 ≤ _; omega⟩
theorem Mo.pass_ok {m : Mo} (h : m.ok) (n : Int) : (m.pass n).ok := by
  have h1 := h.quiet
  unfold Mo.pass
  split
  · exact ⟨h.bad, h.good, h.silent, ⟨by dsimp only; omega, Int.le_refl _⟩, h.short, ⟨Int.le_refl _, by dsimp only; omega⟩, ⟨by simp only; omega, by simp only; omega⟩⟩
  · exact ⟨h.bad, h.good, h.silent, h.st, h.short, h.run, ⟨by simp only; omega, by simp only; omega⟩⟩

/-- what stands around its window -/
def Mo.ar (m : Mo) : Ar := ⟨cx m.good m.bad, .int .i64 m.silent, .int .i64 m.st, cx m.run 0, .int .i64 m.quiet⟩
/-- The block b holds the monitor m of the program. -/
def PM (w : World) (b : Nat) (m : Mo) : Prop := XW w b m.ar 16 (rep 16 m.L) ∧ m.ok
section
variable {w : World} {b : Nat} {m : Mo}
theorem PM.lt (h : PM w b m) : b < w.heap.size := h.1.lt
theorem PM.only {F : Nat → Prop} {w' : World} (h : PM w b m) (k : Only F w w') (hF : ¬ F b) : PM w' b m := ⟨h.1.only k hF, h.2⟩
theorem PM.drewN (h : PM w b m) (j : Nat) : PM (w.drewN j) b m := h
theorem PM.drew (h : PM w b m) : PM w.drew b m := h
theorem PM.cells (h : PM w b m) : w.cell? ⟨b, 0, none⟩ = some (cx m.good m.bad) ∧ w.cell? ⟨b, 1, none⟩ = some (.int .i64 m.silent) ∧ w.cell? ⟨b, 2, none⟩ = some (.int .i64 m.st) ∧ w.cell? ⟨b, 1006, none⟩ = some (cx m.run 0) ∧ w.cell? ⟨b, 1007, none⟩ = some (.int .i64 m.quiet) := h.1.round
end

theorem mlimit_calls (n a b : Int) (hab : a ≤ b) (w : World) : Calls Try.prog 20 #[.int .i64 n, .int .i64 a, .int .i64 b] w fun e w' => e = .returned (.int .i64 (min (max n a) b)) ∧ w' = w := by
  have hn : n < a ∨ (a ≤ n ∧ b < n) ∨ (a ≤ n ∧ n ≤ b) := by omega
  have hc := Lib.hid (show (n < a → min (max n a) b = a) ∧ (a ≤ n → b < n → min (max n a) b = b) ∧ (a ≤ n → n ≤ b → min (max n a) b = n) by omega)
  rcases hn with hn | ⟨hn, hn'⟩ | ⟨hn, hn'⟩
  all_goals
    go_enter Try.func20, Try.ntmps20
    go_wp2
    go_ret
    refine ⟨?_, rfl⟩
    exact ret_int (by omega)

theorem mstate_calls {w : World} {b : Nat} {m : Mo} (h : PM w b m) : Calls Try.prog 15 #[.pointer (some ⟨b, 0, none⟩)] w fun e w' => e = .returned (.int .i64 m.st) ∧ w' = w := by
  obtain ⟨_, _, c2, _⟩ := h.cells
  clear h
  go_enter Try.func15, Try.ntmps15
  go_wp2
  go_ret
  exact ⟨rfl, rfl⟩
theorem msum_calls {w : World} {b : Nat} {m : Mo} (h : PM w b m) : Calls Try.prog 17 #[.pointer (some ⟨b, 0, none⟩)] w fun e w' => e = .returned (cx (gl m.L) (bl m.L)) ∧ w' = w := by
  have hs := xsum_calls h.1
  rw [gs_rep, bs_rep] at hs
  clear h
  go_enter Try.func17, Try.ntmps17
  go_wp2_with fail
  refine hs.mono ?_
  rintro e w' ⟨rfl, rfl⟩
  go_wp2
  go_ret
  exact ⟨rfl, rfl⟩
theorem mnew_calls (bad good silent : Int) (w : World) : Calls Try.prog 9 #[.int .i64 bad, .int .i64 good, .int .i64 silent] w fun e w' =>
    e = .returned (.pointer (some ⟨w.heap.size + 1, 0, none⟩)) ∧ PM w' (w.heap.size + 1) (mnew bad good silent) ∧ Below w.heap.size w w' ∧ w'.heap.size = w.heap.size + 2 := by
  have l1 := fun w => mlimit_calls good 1 16 (by decide) w
  have l2 := fun w => mlimit_calls bad 1 16 (by decide) w
  have l3 := fun w => mlimit_calls silent 1 1073741824 (by decide) w
  have l4 := fun w => of_calls (min (max good 1) 16) (min (max bad 1) 16) w
  rw [cl_of (by omega) (by omega), cl_of (by omega) (by omega)] at l4
  have l5 := new_calls 16 w
  rw [show (siz 16 : Int) = 16 from rfl] at l5
  obtain ⟨Z, hZ⟩ : ∃ Z, zcells 16 = Z := ⟨_, rfl⟩
  obtain ⟨M, hM⟩ : ∃ M, mzcells (fl (min (max good 1) 16)) (fl (min (max bad 1) 16)) (min (max silent 1) 1073741824) = M := ⟨_, rfl⟩
  rw [hZ] at l5
  obtain ⟨w1, hw1⟩ : ∃ w1, w.alloc (.cells Z 46) = w1 := ⟨_, rfl⟩
  rw [hw1] at l5
  have hs1 : w1.heap.size = w.heap.size + 1 := by rw [← hw1]; simp
  have hb1 : w1.heap[w.heap.size]? = some (.cells Z 46 (0, 0)) := by rw [← hw1]; exact heap_alloc_new w _
  have hB1 : Below w.heap.size w w1 := by rw [← hw1]; exact (Below.refl _ _).alloc (Nat.le_refl _) _
  have FIN := Lib.hid (show PM (w1.alloc (.cells M 50)) (w.heap.size + 1) (mnew bad good silent) ∧ Below w.heap.size w (w1.alloc (.cells M 50)) ∧ (w1.alloc (.cells M 50)).heap.size = w.heap.size + 2 from by
    refine ⟨⟨?_, mnew_ok _ _ _⟩, hB1.alloc (by omega) _, by simp [hs1]⟩
    show XW _ _ _ 16 (rep 16 [])
    rw [rep_nil]
    refine XW.empty (by decide) (by decide) ?_
    rw [← hs1, heap_alloc_new, ← hM, mzcells_eq]
    rfl)
  have HB := Lib.hid hb1
  have HZ := Lib.hid hZ
  have HM := Lib.hid hM
  have HS := Lib.hid hs1
  clear hZ hM hs1 hb1 hB1 hw1
  have hx : ∀ a b, cx a b = .complex .f64 (fl a) (fl b) := fun _ _ => rfl
  generalize min (max good 1) 16 = G at *
  generalize min (max bad 1) 16 = B at *
  generalize min (max silent 1) 1073741824 = S at *
  go_enter Try.func9, Try.ntmps9
  go_wp2_with fail
  refine (l1 w).mono ?_
  rintro e w' ⟨rfl, rfl⟩
  go_wp2_with fail
  refine (l2 _).mono ?_
  rintro e w' ⟨rfl, rfl⟩
  go_wp2_with fail
  refine (l4 _).mono ?_
  rintro e w' ⟨rfl, rfl⟩
  go_wp2_with fail
  refine (l3 _).mono ?_
  rintro e w' ⟨rfl, rfl⟩
  go_wp2_with fail
  refine l5.mono ?_
  rintro e w' ⟨rfl, rfl⟩
  clear l1 l2 l3 l4 l5
  go_wp2_with (first | refine wpList_loadW rfl _ rfl _ Z HZ HB rfl ?_ | refine wpList_monitor rfl _ _ _ _ rfl _ _ _ Z M HZ HM rfl rfl rfl rfl ?_)
  go_ret
  exact ⟨by rw [HS.out]; rfl, FIN.out⟩
end Go.Proofs.Ytnjmnklkbldmgaa

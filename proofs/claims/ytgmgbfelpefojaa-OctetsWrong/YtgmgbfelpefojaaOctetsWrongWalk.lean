/- The law OctetsWrong, walked. No condition. -/
import Derived.Test.YtgmgbfelpefojaaOctAlive
import Derived.Deep.RegionHeld
import Derived.Deep.Cut
import Derived.Lib.ConvBytes
namespace Go.Proofs.Ytgmgbfelpefojaa
open Go.RowKit
open Oct
set_option linter.unusedVariables false

def inp : List (List UInt8) := [[126], [97, 126], [125], [97, 125], [125, 126], [125, 125], [125, 94], [125, 93], [125, 65], [], [125, 125, 125], [126, 125]]
def errs : List Int := [2, 2, 4, 4, 2, 0, 0, 0, 0, 0, 4, 2]
def wnt : List (List UInt8) := [[], [], [], [], [], [93], [126], [125], [97], [], [], []]
theorem wrong_un : ∀ k, k < 12 → un false [] (inp.getD k []) = (wnt.getD k [], errs.getD k 0) := by decide
/-- the three tables -/
def wrongT (W : World) : World := ((W.alloc (.cells (inp.map strV).toArray 9)).alloc (.cells (errs.map (Value.int .i64)).toArray 3)).alloc (.cells (wnt.map strV).toArray 9)
theorem wrongT_below (W : World) : Below W.heap.size W (wrongT W) := (((Below.refl W.heap.size W).alloc (Nat.le_refl _) _).alloc (by simp) _).alloc (by simp; omega) _
theorem wrongT_size (W : World) : (wrongT W).heap.size = W.heap.size + 1 + 1 + 1 := by unfold wrongT; simp
theorem at_map {α : Type} (f : α → Value) (L : List α) (d : α) (k : Nat) (h : k < L.length) : (L.map f).toArray[k]? = some (f (L.getD k d)) := by
  simp [List.getElem?_eq_getElem h]
theorem wrongT_1 (W : World) (k : Nat) (h : k < 12) : (wrongT W).cell? ⟨W.heap.size, k, none⟩ = some (strV (inp.getD k [])) := by
  rw [← at_map strV inp [] k h]
  refine cell_of_row _ _ k _ 9 (0, 0) ?_
  unfold wrongT
  rw [Below.heap_alloc _ _ _ (by simp; omega), Below.heap_alloc _ _ _ (by simp)]
  exact heap_alloc_new W _
theorem wrongT_2 (W : World) (k : Nat) (h : k < 12) : (wrongT W).cell? ⟨W.heap.size + 1, k, none⟩ = some (.int .i64 (errs.getD k 0)) := by
  rw [← at_map (Value.int .i64) errs 0 k h]
  refine cell_of_row _ _ k _ 3 (0, 0) ?_
  unfold wrongT
  rw [Below.heap_alloc _ _ _ (by simp)]
  have := heap_alloc_new (W.alloc (.cells (inp.map strV).toArray 9)) (.cells (errs.map (Value.int .i64)).toArray 3)
  simpa using this
theorem wrongT_3 (W : World) (k : Nat) (h : k < 12) : (wrongT W).cell? ⟨W.heap.size + 1 + 1, k, none⟩ = some (strV (wnt.getD k [])) := by
  rw [← at_map strV wnt [] k h]
  refine cell_of_row _ _ k _ 9 (0, 0) ?_
  unfold wrongT
  have := heap_alloc_new ((W.alloc (.cells (inp.map strV).toArray 9)).alloc (.cells (errs.map (Value.int .i64)).toArray 3)) (.cells (wnt.map strV).toArray 9)
  simpa using this

theorem OctetsWrong_far (a : Int) (w : World) (h : a < 0 ∨ 12 ≤ a) :
    Calls Try.prog 7 #[.int .i64 a] w fun e w' => e = .returned (.bool true) ∧ Below w.heap.size w w' := by
  rcases h with h | h
  · go_enter Try.func7, Try.ntmps7
    go_wp2_with fail
    refine (alive_calls w).mono ?_
    rintro e W ⟨rfl, hb⟩
    go_wp2
    go_ret
    exact ⟨rfl, hb.trans ((wrongT_below W).mono hb.size)⟩
  · have h0 : ¬ a < 0 := by omega
    go_enter Try.func7, Try.ntmps7
    go_wp2_with fail
    refine (alive_calls w).mono ?_
    rintro e W ⟨rfl, hb⟩
    go_wp2
    go_ret
    exact ⟨rfl, hb.trans ((wrongT_below W).mono hb.size)⟩

theorem bw_below (w : World) (s : ByteArray) : Below w.heap.size w (Lib.bytesWorld w 5 s) :=
  ⟨rfl, rfl, rfl, by rw [Lib.bytesWorld_size]; omega, fun k hk => Lib.bytesWorld_at_old w 5 s k hk⟩
theorem bw_rd (w : World) (l : List UInt8) : Rd (Lib.bytesWorld w 5 ⟨l.toArray⟩) (some ⟨w.heap.size, 0, none⟩) l := fun _ => ⟨_, _, rfl, fun j hj => by
  rw [Nat.zero_add, Lib.bytesWorld_cell w 5 ⟨l.toArray⟩ j (by simpa [ByteArray.size] using hj)]
  rfl⟩
theorem run_bytes (v : World) (x : List UInt8) : (convert 9 22 (.string ⟨x.toArray⟩)).run Try.prog v = .ok (.slice (some ⟨v.heap.size, 0, none⟩) x.length (grownCap v x.length 0 5)) (Lib.bytesWorld v 5 ⟨x.toArray⟩) :=
  Lib.run_convert_string_bytes (P := Try.prog) v 9 22 5 ⟨x.toArray⟩ Try.underlying9 Try.underlying22 Try.underlying5

theorem OctetsWrong_near (k : Nat) (w : World) (h : k < 12) :
    Calls Try.prog 7 #[.int .i64 (k : Int)] w fun e w' => e = .returned (.bool true) ∧ Below w.heap.size w w' := by
  have hun := wrong_un k h
  have hxl : (inp.getD k []).length ≤ 3 := by
    have : ∀ k, k < 12 → (inp.getD k []).length ≤ 3 := by decide
    exact this k h
  go_enter Try.func7, Try.ntmps7
  go_wp2_with fail
  refine (alive_calls w).mono ?_
  rintro e W ⟨rfl, hb⟩
  have t1 := wrongT_1 W k h
  have t2 := wrongT_2 W k h
  have t3 := wrongT_3 W k h
  have bt := wrongT_below W
  have zt := wrongT_size W
  go_upto_region 5 with (fail)
  change Code.wp _ _ _ _ (wrongT W)
  generalize wrongT W = V at *
  generalize inp.getD k [] = x at *
  generalize wnt.getD k [] = y at *
  generalize errs.getD k 0 = q at *
  unfold strV at t1 t3
  have hu : Calls Try.prog 10 #[.slice (some ⟨V.heap.size, 0, none⟩) x.length (grownCap V x.length 0 5)] (Lib.bytesWorld V 5 ⟨x.toArray⟩) fun e w' => ∃ A c, e = .returned (.tuple #[.slice A y.length c, .int .i64 q]) ∧ Rd w' A y ∧ Below (Lib.bytesWorld V 5 ⟨x.toArray⟩).heap.size (Lib.bytesWorld V 5 ⟨x.toArray⟩) w' := by
    have := unstuff_calls (some ⟨V.heap.size, 0, none⟩) (grownCap V x.length 0 5) x (Lib.bytesWorld V 5 ⟨x.toArray⟩) (bw_rd V x) (by omega)
    rw [hun] at this
    exact this
  have hcv := run_bytes V x
  have bb := bw_below V ⟨x.toArray⟩
  have i0 : (0 : Int) ≤ (k : Int) := by omega
  have i1 : (k : Int) < 12 := by omega
  have c2 := World.block_lt_of_cell? V _ t2
  have c3 := World.block_lt_of_cell? V _ t3
  clear hun zt
  generalize grownCap V x.length 0 5 = cap at *
  generalize Lib.bytesWorld V 5 ⟨x.toArray⟩ = V1 at *
  go_wp2_with fail
  refine hu.mono ?_
  rintro e V2 ⟨A, c, rfl, hr, b2⟩
  have bv2 := bb.trans (b2.mono bb.size)
  have u2 : V2.drew.cell? ⟨W.heap.size + 1, k, none⟩ = some (.int .i64 q) := (bv2.cell c2).trans t2
  have u3 : V2.drew.cell? ⟨W.heap.size + 1 + 1, k, none⟩ = some (.string ⟨y.toArray⟩) := (bv2.cell c3).trans t3
  have q1 := run_conv V2.drew A c y hr
  unfold strV at q1
  have HS := Lib.hid (And.intro q1 (And.intro u2 u3))
  clear q1 u2 u3 t1 t2 t3 hcv hu
  go_wp2_with fail
  go_region_held (fun w' => (convert 22 9 (.slice A y.length c)).run Try.prog w' = .ok (.string ⟨y.toArray⟩) w' ∧ w'.cell? ⟨W.heap.size + 1, k, none⟩ = some (.int .i64 q) ∧ w'.cell? ⟨W.heap.size + 1 + 1, k, none⟩ = some (.string ⟨y.toArray⟩)) (exact HS.out)
    (first | (go_at_call 12; refine (num_calls _ _).mono ?_; rintro e w' ⟨rfl, rfl⟩))
  go_wp2
  go_ret
  exact ⟨rfl, (hb.trans (bt.mono hb.size)).trans (bv2.drew.mono (by have := hb.size; have := bt.size; omega))⟩
theorem OctetsWrong_walk (a0 : Int) (w0 : (Lit.int .i64 a0).wf = true) (w : World) : Calls Try.prog 7 #[.int .i64 a0] w fun e w' => e = .returned (.bool true) ∧ Below w.heap.size w w' := by
  by_cases h : a0 < 0 ∨ 12 ≤ a0
  · exact OctetsWrong_far a0 w h
  · obtain ⟨k, rfl⟩ : ∃ k : Nat, a0 = (k : Int) := ⟨a0.toNat, by omega⟩
    exact OctetsWrong_near k w (by omega)
end Go.Proofs.Ytgmgbfelpefojaa

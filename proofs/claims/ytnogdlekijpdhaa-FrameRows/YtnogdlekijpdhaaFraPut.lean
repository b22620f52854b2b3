/- Put of the program and Frame of the reference: each returns the frame, in new memory. Condition: the slice reads as the body, of at most 1000 octets. -/
import Derived.Test.YtnogdlekijpdhaaFraConcat
namespace Go.Proofs.Ytnogdlekijpdhaa
open Go.RowKit
open Fcs Oct Fra
set_option linter.unusedVariables false

set_option maxHeartbeats 1000000 in
theorem frput_calls (wide : Bool) (A : Option Addr) (c : Nat) (l : List UInt8) (w : World) (hr : Rd w A l) (hl : l.length ≤ 1000) :
    Calls Try.prog 15 #[.slice A l.length c, .bool wide] w (GivesOwn (frame wide l) w) := by
  obtain ⟨x, hx⟩ : ∃ x, x = l ++ sumB wide l := ⟨_, rfl⟩
  have hs := sums_len wide l hl
  have FE := Lib.hid (frame_eq wide l)
  have p1 := put_calls wide A c l (laid w [126]) (hr.below (laid_below _ _)) hl
  rw [← hx] at p1 FE hs
  clear hx
  have r0 := laid_rd w [126]
  have HB0 := Lib.hid (laid_below w [126])
  have hz0 := laid_size w [126]
  go_enter Try.func15, Try.ntmps15
  go_wp2_with fail
  refine p1.mono ?_
  rintro e w2 ⟨B, d, rfl, own2, bel2⟩
  clear p1
  have b2 := HB0.out.trans (bel2.mono (by rw [hz0]; omega))
  have s2 := stuff_calls B d x w2 own2.rd (by omega)
  have r2 := r0.below bel2
  go_wp2_with fail
  refine s2.mono ?_
  rintro e w3 ⟨C, k, rfl, rd3, bel3⟩
  clear s2 own2
  have b3 := b2.trans (bel3.mono b2.size)
  have r3 := r2.below bel3
  have hb : (w3.alloc (.cells #[.slice (some ⟨w.heap.size, 0, none⟩) 1 1, .slice C (stuff x).length k, .slice (some ⟨w.heap.size, 0, none⟩) 1 1] 22)).heap[w3.heap.size]? = some (.cells #[.slice (some ⟨w.heap.size, 0, none⟩) 1 1, .slice C (stuff x).length k, .slice (some ⟨w.heap.size, 0, none⟩) 1 1] 22 (0, 0)) := heap_alloc_new _ _
  have hc := concat3_calls w3.heap.size (some ⟨w.heap.size, 0, none⟩) 1 [126] C k (stuff x) (some ⟨w.heap.size, 0, none⟩) 1 [126] _
    (by rw [cell_of_row _ _ 0 _ _ (0, 0) hb]; rfl) (by rw [cell_of_row _ _ 1 _ _ (0, 0) hb]; rfl) (by rw [cell_of_row _ _ 2 _ _ (0, 0) hb]; rfl) (r3.alloc _) (rd3.alloc _) (r3.alloc _) (by simp) (by omega) (by simp) (by simp)
  have hbl := b3.alloc b3.size (.cells #[.slice (some ⟨w.heap.size, 0, none⟩) 1 1, .slice C (stuff x).length k, .slice (some ⟨w.heap.size, 0, none⟩) 1 1] 22)
  rw [FE.out] at hc
  clear hb
  go_wp2_with fail
  refine hc.mono ?_
  rintro e w4 ⟨A4, c4, rfl, own4, bel4⟩
  clear hc
  have O4 := Lib.hid (own_mono own4 hbl.size)
  have B4 := Lib.hid (hbl.trans (bel4.mono hbl.size))
  clear own4 bel4
  go_wp2
  go_ret
  exact ⟨A4, c4, rfl, O4.out, B4.out⟩
set_option maxHeartbeats 1000000 in
theorem refFrame_calls (wide : Bool) (A : Option Addr) (c : Nat) (l : List UInt8) (w : World) (hr : Rd w A l) (hl : l.length ≤ 1000) :
    Calls Try.prog 16 #[.slice A l.length c, .bool wide] w (GivesOwn (frame wide l) w) := by
  obtain ⟨x, hx⟩ : ∃ x, x = l ++ sumB wide l := ⟨_, rfl⟩
  have hs := sums_len wide l hl
  have FE := Lib.hid (frame_eq wide l)
  have p1 := refSum_calls wide A c l (laid w [126]) (hr.below (laid_below _ _)) (by omega)
  rw [← hx] at p1 FE hs
  clear hx
  have own0 := laid_own w [126] (by simp)
  have HB0 := Lib.hid (laid_below w [126])
  have hz0 := laid_size w [126]
  go_enter Try.func16, Try.ntmps16
  go_wp2_with fail
  refine p1.mono ?_
  rintro e w2 ⟨B, d, rfl, own2, bel2⟩
  clear p1
  have b2 := HB0.out.trans (bel2.mono (by rw [hz0]; omega))
  have s2 := refStuff_calls B d x w2 own2.rd (by omega)
  have o2 := own0.below bel2
  go_wp2_with fail
  refine s2.mono ?_
  rintro e w3 ⟨C, k, rfl, rd3, bel3⟩
  clear s2 own2
  have b3 := b2.trans (bel3.mono b2.size)
  have o3 := o2.below bel3
  obtain ⟨A4, c4, w4, run4, own4, bel4⟩ := run_app w3 w.heap.size _ _ _ o3 C k _ rd3 (by simp; omega) b3.size
  have b4 := b3.trans bel4
  obtain ⟨A5, c5, w5, run5, own5, bel5⟩ := app_new w4 w.heap.size A4 c4 _ [126] own4 b4.size (by simp; omega)
  have b5 := b4.trans bel5
  rw [FE.out] at own5 run5
  generalize frame wide l = fr at *
  generalize stuff x = st at *
  generalize [126] ++ st = st1 at *
  clear own0 o2 o3 own4 FE
  go_wp2_with (first | (at_builtin; refine Lib.wpList_append_run _ rfl (.tmp 5) (.tmp 9) _ _ rfl _ _ rfl rfl _ _ (run4 _) ?_) | (at_builtin; refine Lib.wpList_append_run _ rfl (.tmp 10) (.tmp 11) _ _ rfl _ _ rfl rfl _ _ (run5 _) ?_))
  go_ret
  exact ⟨A5, c5, rfl, own5, b5⟩
end Go.Proofs.Ytnogdlekijpdhaa

/- The law ControlKnown at the last five. No condition. -/
import Derived.Test.YthakcaofihacdaaCtlTabs
namespace Go.Proofs.Ythakcaofihacdaa
open Go.RowKit
set_option linter.unusedVariables false

set_option maxHeartbeats 400000 in
theorem ControlKnown_5 (w : World) :
    Calls Try.prog 6 #[.int .i64 5] w fun e w' => e = .returned (.bool true) ∧ Below w.heap.size w w' := by
  go_enter Try.func6, Try.ntmps6
  go_wp2_with fail
  refine (alive_calls w).mono ?_
  rintro e W ⟨rfl, hb⟩
  have KT := Lib.hid (show ∀ v, Below (tabs W).heap.size (tabs W) v → (v.cell? ⟨W.heap.size, 20, none⟩ = some (.int .i64 5) ∧ v.cell? ⟨W.heap.size, 21, none⟩ = some (.int .i64 0) ∧ v.cell? ⟨W.heap.size, 22, none⟩ = some (.int .i64 0) ∧ v.cell? ⟨W.heap.size, 23, none⟩ = some (.bool true) ∧ v.cell? ⟨W.heap.size + 1, 5, none⟩ = some (.int .i64 128) ∧ v.cell? ⟨W.heap.size + 1 + 1, 5, none⟩ = some (.string ⟨#[83]⟩)) from fun v hv => by
    obtain ⟨h0, h1, h2⟩ := tab_cell W v hv
    exact ⟨h0 20, h0 21, h0 22, h0 23, h1 5, h2 5⟩)
  have bt := tabs_below W
  have FT := Lib.hid (hb.trans (bt.mono hb.size))
  have BC := bytes_calls 5 0 0 true 128 (tabs W).drew
  obtain ⟨E, hE⟩ : ∃ E, enc 5 0 0 true 128 = E := ⟨_, rfl⟩
  rw [hE] at BC
  have HE := Lib.hid (show E = [83] by rw [← hE]; decide +kernel)
  clear hE bt hb
  go_wp2_with fail
  change Code.wp _ _ _ _ (tabs W)
  generalize tabs W = T at *
  have D0 := Lib.hid (show Below T.heap.size T T.drew from (Below.refl T.heap.size T).drew)
  go_region_held (fun v => v.cell? ⟨W.heap.size, 20, none⟩ = some (.int .i64 5) ∧ v.cell? ⟨W.heap.size, 21, none⟩ = some (.int .i64 0) ∧ v.cell? ⟨W.heap.size, 22, none⟩ = some (.int .i64 0) ∧ v.cell? ⟨W.heap.size, 23, none⟩ = some (.bool true) ∧ v.cell? ⟨W.heap.size + 1, 5, none⟩ = some (.int .i64 128) ∧ v.cell? ⟨W.heap.size + 1 + 1, 5, none⟩ = some (.string ⟨#[83]⟩)) (first | exact KT.out _ D0.out | exact KT.out _ (by assumption))
    ((go_at_call 9; (with_reducible refine BC.mono ?_); rintro e w4 ⟨A4, c4, rfl, rd4, bel4⟩; have q4 := run_conv w4 A4 c4 E rd4; unfold strV at q4; have b4 : Below T.heap.size T w4 := (Below.refl T.heap.size T).drew.trans bel4))
  have FB := Lib.hid (FT.out.trans (b4.mono FT.out.size))
  clear b4 q4 rd4 bel4
  go_wp2
  go_ret
  exact ⟨by rw [HE.out]; rfl, FB.out⟩
set_option maxHeartbeats 400000 in
theorem ControlKnown_6 (w : World) :
    Calls Try.prog 6 #[.int .i64 6] w fun e w' => e = .returned (.bool true) ∧ Below w.heap.size w w' := by
  go_enter Try.func6, Try.ntmps6
  go_wp2_with fail
  refine (alive_calls w).mono ?_
  rintro e W ⟨rfl, hb⟩
  have KT := Lib.hid (show ∀ v, Below (tabs W).heap.size (tabs W) v → (v.cell? ⟨W.heap.size, 24, none⟩ = some (.int .i64 6) ∧ v.cell? ⟨W.heap.size, 25, none⟩ = some (.int .i64 0) ∧ v.cell? ⟨W.heap.size, 26, none⟩ = some (.int .i64 0) ∧ v.cell? ⟨W.heap.size, 27, none⟩ = some (.bool false) ∧ v.cell? ⟨W.heap.size + 1, 6, none⟩ = some (.int .i64 32768) ∧ v.cell? ⟨W.heap.size + 1 + 1, 6, none⟩ = some (.string ⟨#[15]⟩)) from fun v hv => by
    obtain ⟨h0, h1, h2⟩ := tab_cell W v hv
    exact ⟨h0 24, h0 25, h0 26, h0 27, h1 6, h2 6⟩)
  have bt := tabs_below W
  have FT := Lib.hid (hb.trans (bt.mono hb.size))
  have BC := bytes_calls 6 0 0 false 32768 (tabs W).drew
  obtain ⟨E, hE⟩ : ∃ E, enc 6 0 0 false 32768 = E := ⟨_, rfl⟩
  rw [hE] at BC
  have HE := Lib.hid (show E = [15] by rw [← hE]; decide +kernel)
  clear hE bt hb
  go_wp2_with fail
  change Code.wp _ _ _ _ (tabs W)
  generalize tabs W = T at *
  have D0 := Lib.hid (show Below T.heap.size T T.drew from (Below.refl T.heap.size T).drew)
  go_region_held (fun v => v.cell? ⟨W.heap.size, 24, none⟩ = some (.int .i64 6) ∧ v.cell? ⟨W.heap.size, 25, none⟩ = some (.int .i64 0) ∧ v.cell? ⟨W.heap.size, 26, none⟩ = some (.int .i64 0) ∧ v.cell? ⟨W.heap.size, 27, none⟩ = some (.bool false) ∧ v.cell? ⟨W.heap.size + 1, 6, none⟩ = some (.int .i64 32768) ∧ v.cell? ⟨W.heap.size + 1 + 1, 6, none⟩ = some (.string ⟨#[15]⟩)) (first | exact KT.out _ D0.out | exact KT.out _ (by assumption))
    ((go_at_call 9; (with_reducible refine BC.mono ?_); rintro e w4 ⟨A4, c4, rfl, rd4, bel4⟩; have q4 := run_conv w4 A4 c4 E rd4; unfold strV at q4; have b4 : Below T.heap.size T w4 := (Below.refl T.heap.size T).drew.trans bel4))
  have FB := Lib.hid (FT.out.trans (b4.mono FT.out.size))
  clear b4 q4 rd4 bel4
  go_wp2
  go_ret
  exact ⟨by rw [HE.out]; rfl, FB.out⟩
set_option maxHeartbeats 400000 in
theorem ControlKnown_7 (w : World) :
    Calls Try.prog 6 #[.int .i64 7] w fun e w' => e = .returned (.bool true) ∧ Below w.heap.size w w' := by
  go_enter Try.func6, Try.ntmps6
  go_wp2_with fail
  refine (alive_calls w).mono ?_
  rintro e W ⟨rfl, hb⟩
  have KT := Lib.hid (show ∀ v, Below (tabs W).heap.size (tabs W) v → (v.cell? ⟨W.heap.size, 28, none⟩ = some (.int .i64 7) ∧ v.cell? ⟨W.heap.size, 29, none⟩ = some (.int .i64 0) ∧ v.cell? ⟨W.heap.size, 30, none⟩ = some (.int .i64 0) ∧ v.cell? ⟨W.heap.size, 31, none⟩ = some (.bool false) ∧ v.cell? ⟨W.heap.size + 1, 7, none⟩ = some (.int .i64 32768) ∧ v.cell? ⟨W.heap.size + 1 + 1, 7, none⟩ = some (.string ⟨#[135]⟩)) from fun v hv => by
    obtain ⟨h0, h1, h2⟩ := tab_cell W v hv
    exact ⟨h0 28, h0 29, h0 30, h0 31, h1 7, h2 7⟩)
  have bt := tabs_below W
  have FT := Lib.hid (hb.trans (bt.mono hb.size))
  have BC := bytes_calls 7 0 0 false 32768 (tabs W).drew
  obtain ⟨E, hE⟩ : ∃ E, enc 7 0 0 false 32768 = E := ⟨_, rfl⟩
  rw [hE] at BC
  have HE := Lib.hid (show E = [135] by rw [← hE]; decide +kernel)
  clear hE bt hb
  go_wp2_with fail
  change Code.wp _ _ _ _ (tabs W)
  generalize tabs W = T at *
  have D0 := Lib.hid (show Below T.heap.size T T.drew from (Below.refl T.heap.size T).drew)
  go_region_held (fun v => v.cell? ⟨W.heap.size, 28, none⟩ = some (.int .i64 7) ∧ v.cell? ⟨W.heap.size, 29, none⟩ = some (.int .i64 0) ∧ v.cell? ⟨W.heap.size, 30, none⟩ = some (.int .i64 0) ∧ v.cell? ⟨W.heap.size, 31, none⟩ = some (.bool false) ∧ v.cell? ⟨W.heap.size + 1, 7, none⟩ = some (.int .i64 32768) ∧ v.cell? ⟨W.heap.size + 1 + 1, 7, none⟩ = some (.string ⟨#[135]⟩)) (first | exact KT.out _ D0.out | exact KT.out _ (by assumption))
    ((go_at_call 9; (with_reducible refine BC.mono ?_); rintro e w4 ⟨A4, c4, rfl, rd4, bel4⟩; have q4 := run_conv w4 A4 c4 E rd4; unfold strV at q4; have b4 : Below T.heap.size T w4 := (Below.refl T.heap.size T).drew.trans bel4))
  have FB := Lib.hid (FT.out.trans (b4.mono FT.out.size))
  clear b4 q4 rd4 bel4
  go_wp2
  go_ret
  exact ⟨by rw [HE.out]; rfl, FB.out⟩
set_option maxHeartbeats 400000 in
theorem ControlKnown_8 (w : World) :
    Calls Try.prog 6 #[.int .i64 8] w fun e w' => e = .returned (.bool true) ∧ Below w.heap.size w w' := by
  go_enter Try.func6, Try.ntmps6
  go_wp2_with fail
  refine (alive_calls w).mono ?_
  rintro e W ⟨rfl, hb⟩
  have KT := Lib.hid (show ∀ v, Below (tabs W).heap.size (tabs W) v → (v.cell? ⟨W.heap.size, 32, none⟩ = some (.int .i64 0) ∧ v.cell? ⟨W.heap.size, 33, none⟩ = some (.int .i64 300) ∧ v.cell? ⟨W.heap.size, 34, none⟩ = some (.int .i64 2) ∧ v.cell? ⟨W.heap.size, 35, none⟩ = some (.bool false) ∧ v.cell? ⟨W.heap.size + 1, 8, none⟩ = some (.int .i64 32768) ∧ v.cell? ⟨W.heap.size + 1 + 1, 8, none⟩ = some (.string ⟨#[88, 2, 4, 0]⟩)) from fun v hv => by
    obtain ⟨h0, h1, h2⟩ := tab_cell W v hv
    exact ⟨h0 32, h0 33, h0 34, h0 35, h1 8, h2 8⟩)
  have bt := tabs_below W
  have FT := Lib.hid (hb.trans (bt.mono hb.size))
  have BC := bytes_calls 0 300 2 false 32768 (tabs W).drew
  obtain ⟨E, hE⟩ : ∃ E, enc 0 300 2 false 32768 = E := ⟨_, rfl⟩
  rw [hE] at BC
  have HE := Lib.hid (show E = [88, 2, 4, 0] by rw [← hE]; decide +kernel)
  clear hE bt hb
  go_wp2_with fail
  change Code.wp _ _ _ _ (tabs W)
  generalize tabs W = T at *
  have D0 := Lib.hid (show Below T.heap.size T T.drew from (Below.refl T.heap.size T).drew)
  go_region_held (fun v => v.cell? ⟨W.heap.size, 32, none⟩ = some (.int .i64 0) ∧ v.cell? ⟨W.heap.size, 33, none⟩ = some (.int .i64 300) ∧ v.cell? ⟨W.heap.size, 34, none⟩ = some (.int .i64 2) ∧ v.cell? ⟨W.heap.size, 35, none⟩ = some (.bool false) ∧ v.cell? ⟨W.heap.size + 1, 8, none⟩ = some (.int .i64 32768) ∧ v.cell? ⟨W.heap.size + 1 + 1, 8, none⟩ = some (.string ⟨#[88, 2, 4, 0]⟩)) (first | exact KT.out _ D0.out | exact KT.out _ (by assumption))
    ((go_at_call 9; (with_reducible refine BC.mono ?_); rintro e w4 ⟨A4, c4, rfl, rd4, bel4⟩; have q4 := run_conv w4 A4 c4 E rd4; unfold strV at q4; have b4 : Below T.heap.size T w4 := (Below.refl T.heap.size T).drew.trans bel4))
  have FB := Lib.hid (FT.out.trans (b4.mono FT.out.size))
  clear b4 q4 rd4 bel4
  go_wp2
  go_ret
  exact ⟨by rw [HE.out]; rfl, FB.out⟩
set_option maxHeartbeats 400000 in
theorem ControlKnown_9 (w : World) :
    Calls Try.prog 6 #[.int .i64 9] w fun e w' => e = .returned (.bool true) ∧ Below w.heap.size w w' := by
  go_enter Try.func6, Try.ntmps6
  go_wp2_with fail
  refine (alive_calls w).mono ?_
  rintro e W ⟨rfl, hb⟩
  have KT := Lib.hid (show ∀ v, Below (tabs W).heap.size (tabs W) v → (v.cell? ⟨W.heap.size, 36, none⟩ = some (.int .i64 1) ∧ v.cell? ⟨W.heap.size, 37, none⟩ = some (.int .i64 0) ∧ v.cell? ⟨W.heap.size, 38, none⟩ = some (.int .i64 130) ∧ v.cell? ⟨W.heap.size, 39, none⟩ = some (.bool true) ∧ v.cell? ⟨W.heap.size + 1, 9, none⟩ = some (.int .i64 32768) ∧ v.cell? ⟨W.heap.size + 1 + 1, 9, none⟩ = some (.string ⟨#[1, 0, 5, 1]⟩)) from fun v hv => by
    obtain ⟨h0, h1, h2⟩ := tab_cell W v hv
    exact ⟨h0 36, h0 37, h0 38, h0 39, h1 9, h2 9⟩)
  have bt := tabs_below W
  have FT := Lib.hid (hb.trans (bt.mono hb.size))
  have BC := bytes_calls 1 0 130 true 32768 (tabs W).drew
  obtain ⟨E, hE⟩ : ∃ E, enc 1 0 130 true 32768 = E := ⟨_, rfl⟩
  rw [hE] at BC
  have HE := Lib.hid (show E = [1, 0, 5, 1] by rw [← hE]; decide +kernel)
  clear hE bt hb
  go_wp2_with fail
  change Code.wp _ _ _ _ (tabs W)
  generalize tabs W = T at *
  have D0 := Lib.hid (show Below T.heap.size T T.drew from (Below.refl T.heap.size T).drew)
  go_region_held (fun v => v.cell? ⟨W.heap.size, 36, none⟩ = some (.int .i64 1) ∧ v.cell? ⟨W.heap.size, 37, none⟩ = some (.int .i64 0) ∧ v.cell? ⟨W.heap.size, 38, none⟩ = some (.int .i64 130) ∧ v.cell? ⟨W.heap.size, 39, none⟩ = some (.bool true) ∧ v.cell? ⟨W.heap.size + 1, 9, none⟩ = some (.int .i64 32768) ∧ v.cell? ⟨W.heap.size + 1 + 1, 9, none⟩ = some (.string ⟨#[1, 0, 5, 1]⟩)) (first | exact KT.out _ D0.out | exact KT.out _ (by assumption))
    ((go_at_call 9; (with_reducible refine BC.mono ?_); rintro e w4 ⟨A4, c4, rfl, rd4, bel4⟩; have q4 := run_conv w4 A4 c4 E rd4; unfold strV at q4; have b4 : Below T.heap.size T w4 := (Below.refl T.heap.size T).drew.trans bel4))
  have FB := Lib.hid (FT.out.trans (b4.mono FT.out.size))
  clear b4 q4 rd4 bel4
  go_wp2
  go_ret
  exact ⟨by rw [HE.out]; rfl, FB.out⟩
end Go.Proofs.Ythakcaofihacdaa

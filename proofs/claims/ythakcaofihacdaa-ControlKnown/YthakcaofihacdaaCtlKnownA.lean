/- The law ControlKnown at the first five. No condition. -/
import Derived.Test.YthakcaofihacdaaCtlTabs
namespace Go.Proofs.Ythakcaofihacdaa
open Go.RowKit
set_option linter.unusedVariables false

set_option maxHeartbeats 400000 in
theorem ControlKnown_0 (w : World) :
    Calls Try.prog 6 #[.int .i64 0] w fun e w' => e = .returned (.bool true) ∧ Below w.heap.size w w' := by
  go_enter Try.func6, Try.ntmps6
  go_wp2_with fail
  refine (alive_calls w).mono ?_
  rintro e W ⟨rfl, hb⟩
  have KT := Lib.hid (show ∀ v, Below (tabs W).heap.size (tabs W) v → (v.cell? ⟨W.heap.size, 0, none⟩ = some (.int .i64 0) ∧ v.cell? ⟨W.heap.size, 1, none⟩ = some (.int .i64 5) ∧ v.cell? ⟨W.heap.size, 2, none⟩ = some (.int .i64 3) ∧ v.cell? ⟨W.heap.size, 3, none⟩ = some (.bool true) ∧ v.cell? ⟨W.heap.size + 1, 0, none⟩ = some (.int .i64 128) ∧ v.cell? ⟨W.heap.size + 1 + 1, 0, none⟩ = some (.string ⟨#[10, 7]⟩)) from fun v hv => by
    obtain ⟨h0, h1, h2⟩ := tab_cell W v hv
    exact ⟨h0 0, h0 1, h0 2, h0 3, h1 0, h2 0⟩)
  have bt := tabs_below W
  have FT := Lib.hid (hb.trans (bt.mono hb.size))
  have BC := bytes_calls 0 5 3 true 128 (tabs W).drew
  obtain ⟨E, hE⟩ : ∃ E, enc 0 5 3 true 128 = E := ⟨_, rfl⟩
  rw [hE] at BC
  have HE := Lib.hid (show E = [10, 7] by rw [← hE]; decide +kernel)
  clear hE bt hb
  go_wp2_with fail
  change Code.wp _ _ _ _ (tabs W)
  generalize tabs W = T at *
  have D0 := Lib.hid (show Below T.heap.size T T.drew from (Below.refl T.heap.size T).drew)
  go_region_held (fun v => v.cell? ⟨W.heap.size, 0, none⟩ = some (.int .i64 0) ∧ v.cell? ⟨W.heap.size, 1, none⟩ = some (.int .i64 5) ∧ v.cell? ⟨W.heap.size, 2, none⟩ = some (.int .i64 3) ∧ v.cell? ⟨W.heap.size, 3, none⟩ = some (.bool true) ∧ v.cell? ⟨W.heap.size + 1, 0, none⟩ = some (.int .i64 128) ∧ v.cell? ⟨W.heap.size + 1 + 1, 0, none⟩ = some (.string ⟨#[10, 7]⟩)) (first | exact KT.out _ D0.out | exact KT.out _ (by assumption))
    ((go_at_call 9; (with_reducible refine BC.mono ?_); rintro e w4 ⟨A4, c4, rfl, rd4, bel4⟩; have q4 := run_conv w4 A4 c4 E rd4; unfold strV at q4; have b4 : Below T.heap.size T w4 := (Below.refl T.heap.size T).drew.trans bel4))
  have FB := Lib.hid (FT.out.trans (b4.mono FT.out.size))
  clear b4 q4 rd4 bel4
  go_wp2
  go_ret
  exact ⟨by rw [HE.out]; rfl, FB.out⟩
set_option maxHeartbeats 400000 in
theorem ControlKnown_1 (w : World) :
    Calls Try.prog 6 #[.int .i64 1] w fun e w' => e = .returned (.bool true) ∧ Below w.heap.size w w' := by
  go_enter Try.func6, Try.ntmps6
  go_wp2_with fail
  refine (alive_calls w).mono ?_
  rintro e W ⟨rfl, hb⟩
  have KT := Lib.hid (show ∀ v, Below (tabs W).heap.size (tabs W) v → (v.cell? ⟨W.heap.size, 4, none⟩ = some (.int .i64 1) ∧ v.cell? ⟨W.heap.size, 5, none⟩ = some (.int .i64 0) ∧ v.cell? ⟨W.heap.size, 6, none⟩ = some (.int .i64 7) ∧ v.cell? ⟨W.heap.size, 7, none⟩ = some (.bool false) ∧ v.cell? ⟨W.heap.size + 1, 1, none⟩ = some (.int .i64 128) ∧ v.cell? ⟨W.heap.size + 1 + 1, 1, none⟩ = some (.string ⟨#[1, 14]⟩)) from fun v hv => by
    obtain ⟨h0, h1, h2⟩ := tab_cell W v hv
    exact ⟨h0 4, h0 5, h0 6, h0 7, h1 1, h2 1⟩)
  have bt := tabs_below W
  have FT := Lib.hid (hb.trans (bt.mono hb.size))
  have BC := bytes_calls 1 0 7 false 128 (tabs W).drew
  obtain ⟨E, hE⟩ : ∃ E, enc 1 0 7 false 128 = E := ⟨_, rfl⟩
  rw [hE] at BC
  have HE := Lib.hid (show E = [1, 14] by rw [← hE]; decide +kernel)
  clear hE bt hb
  go_wp2_with fail
  change Code.wp _ _ _ _ (tabs W)
  generalize tabs W = T at *
  have D0 := Lib.hid (show Below T.heap.size T T.drew from (Below.refl T.heap.size T).drew)
  go_region_held (fun v => v.cell? ⟨W.heap.size, 4, none⟩ = some (.int .i64 1) ∧ v.cell? ⟨W.heap.size, 5, none⟩ = some (.int .i64 0) ∧ v.cell? ⟨W.heap.size, 6, none⟩ = some (.int .i64 7) ∧ v.cell? ⟨W.heap.size, 7, none⟩ = some (.bool false) ∧ v.cell? ⟨W.heap.size + 1, 1, none⟩ = some (.int .i64 128) ∧ v.cell? ⟨W.heap.size + 1 + 1, 1, none⟩ = some (.string ⟨#[1, 14]⟩)) (first | exact KT.out _ D0.out | exact KT.out _ (by assumption))
    ((go_at_call 9; (with_reducible refine BC.mono ?_); rintro e w4 ⟨A4, c4, rfl, rd4, bel4⟩; have q4 := run_conv w4 A4 c4 E rd4; unfold strV at q4; have b4 : Below T.heap.size T w4 := (Below.refl T.heap.size T).drew.trans bel4))
  have FB := Lib.hid (FT.out.trans (b4.mono FT.out.size))
  clear b4 q4 rd4 bel4
  go_wp2
  go_ret
  exact ⟨by rw [HE.out]; rfl, FB.out⟩
set_option maxHeartbeats 400000 in
theorem ControlKnown_2 (w : World) :
    Calls Try.prog 6 #[.int .i64 2] w fun e w' => e = .returned (.bool true) ∧ Below w.heap.size w w' := by
  go_enter Try.func6, Try.ntmps6
  go_wp2_with fail
  refine (alive_calls w).mono ?_
  rintro e W ⟨rfl, hb⟩
  have KT := Lib.hid (show ∀ v, Below (tabs W).heap.size (tabs W) v → (v.cell? ⟨W.heap.size, 8, none⟩ = some (.int .i64 2) ∧ v.cell? ⟨W.heap.size, 9, none⟩ = some (.int .i64 0) ∧ v.cell? ⟨W.heap.size, 10, none⟩ = some (.int .i64 127) ∧ v.cell? ⟨W.heap.size, 11, none⟩ = some (.bool true) ∧ v.cell? ⟨W.heap.size + 1, 2, none⟩ = some (.int .i64 128) ∧ v.cell? ⟨W.heap.size + 1 + 1, 2, none⟩ = some (.string ⟨#[9, 255]⟩)) from fun v hv => by
    obtain ⟨h0, h1, h2⟩ := tab_cell W v hv
    exact ⟨h0 8, h0 9, h0 10, h0 11, h1 2, h2 2⟩)
  have bt := tabs_below W
  have FT := Lib.hid (hb.trans (bt.mono hb.size))
  have BC := bytes_calls 2 0 127 true 128 (tabs W).drew
  obtain ⟨E, hE⟩ : ∃ E, enc 2 0 127 true 128 = E := ⟨_, rfl⟩
  rw [hE] at BC
  have HE := Lib.hid (show E = [9, 255] by rw [← hE]; decide +kernel)
  clear hE bt hb
  go_wp2_with fail
  change Code.wp _ _ _ _ (tabs W)
  generalize tabs W = T at *
  have D0 := Lib.hid (show Below T.heap.size T T.drew from (Below.refl T.heap.size T).drew)
  go_region_held (fun v => v.cell? ⟨W.heap.size, 8, none⟩ = some (.int .i64 2) ∧ v.cell? ⟨W.heap.size, 9, none⟩ = some (.int .i64 0) ∧ v.cell? ⟨W.heap.size, 10, none⟩ = some (.int .i64 127) ∧ v.cell? ⟨W.heap.size, 11, none⟩ = some (.bool true) ∧ v.cell? ⟨W.heap.size + 1, 2, none⟩ = some (.int .i64 128) ∧ v.cell? ⟨W.heap.size + 1 + 1, 2, none⟩ = some (.string ⟨#[9, 255]⟩)) (first | exact KT.out _ D0.out | exact KT.out _ (by assumption))
    ((go_at_call 9; (with_reducible refine BC.mono ?_); rintro e w4 ⟨A4, c4, rfl, rd4, bel4⟩; have q4 := run_conv w4 A4 c4 E rd4; unfold strV at q4; have b4 : Below T.heap.size T w4 := (Below.refl T.heap.size T).drew.trans bel4))
  have FB := Lib.hid (FT.out.trans (b4.mono FT.out.size))
  clear b4 q4 rd4 bel4
  go_wp2
  go_ret
  exact ⟨by rw [HE.out]; rfl, FB.out⟩
set_option maxHeartbeats 400000 in
theorem ControlKnown_3 (w : World) :
    Calls Try.prog 6 #[.int .i64 3] w fun e w' => e = .returned (.bool true) ∧ Below w.heap.size w w' := by
  go_enter Try.func6, Try.ntmps6
  go_wp2_with fail
  refine (alive_calls w).mono ?_
  rintro e W ⟨rfl, hb⟩
  have KT := Lib.hid (show ∀ v, Below (tabs W).heap.size (tabs W) v → (v.cell? ⟨W.heap.size, 12, none⟩ = some (.int .i64 3) ∧ v.cell? ⟨W.heap.size, 13, none⟩ = some (.int .i64 0) ∧ v.cell? ⟨W.heap.size, 14, none⟩ = some (.int .i64 0) ∧ v.cell? ⟨W.heap.size, 15, none⟩ = some (.bool true) ∧ v.cell? ⟨W.heap.size + 1, 3, none⟩ = some (.int .i64 128) ∧ v.cell? ⟨W.heap.size + 1 + 1, 3, none⟩ = some (.string ⟨#[127]⟩)) from fun v hv => by
    obtain ⟨h0, h1, h2⟩ := tab_cell W v hv
    exact ⟨h0 12, h0 13, h0 14, h0 15, h1 3, h2 3⟩)
  have bt := tabs_below W
  have FT := Lib.hid (hb.trans (bt.mono hb.size))
  have BC := bytes_calls 3 0 0 true 128 (tabs W).drew
  obtain ⟨E, hE⟩ : ∃ E, enc 3 0 0 true 128 = E := ⟨_, rfl⟩
  rw [hE] at BC
  have HE := Lib.hid (show E = [127] by rw [← hE]; decide +kernel)
  clear hE bt hb
  go_wp2_with fail
  change Code.wp _ _ _ _ (tabs W)
  generalize tabs W = T at *
  have D0 := Lib.hid (show Below T.heap.size T T.drew from (Below.refl T.heap.size T).drew)
  go_region_held (fun v => v.cell? ⟨W.heap.size, 12, none⟩ = some (.int .i64 3) ∧ v.cell? ⟨W.heap.size, 13, none⟩ = some (.int .i64 0) ∧ v.cell? ⟨W.heap.size, 14, none⟩ = some (.int .i64 0) ∧ v.cell? ⟨W.heap.size, 15, none⟩ = some (.bool true) ∧ v.cell? ⟨W.heap.size + 1, 3, none⟩ = some (.int .i64 128) ∧ v.cell? ⟨W.heap.size + 1 + 1, 3, none⟩ = some (.string ⟨#[127]⟩)) (first | exact KT.out _ D0.out | exact KT.out _ (by assumption))
    ((go_at_call 9; (with_reducible refine BC.mono ?_); rintro e w4 ⟨A4, c4, rfl, rd4, bel4⟩; have q4 := run_conv w4 A4 c4 E rd4; unfold strV at q4; have b4 : Below T.heap.size T w4 := (Below.refl T.heap.size T).drew.trans bel4))
  have FB := Lib.hid (FT.out.trans (b4.mono FT.out.size))
  clear b4 q4 rd4 bel4
  go_wp2
  go_ret
  exact ⟨by rw [HE.out]; rfl, FB.out⟩
set_option maxHeartbeats 400000 in
theorem ControlKnown_4 (w : World) :
    Calls Try.prog 6 #[.int .i64 4] w fun e w' => e = .returned (.bool true) ∧ Below w.heap.size w w' := by
  go_enter Try.func6, Try.ntmps6
  go_wp2_with fail
  refine (alive_calls w).mono ?_
  rintro e W ⟨rfl, hb⟩
  have KT := Lib.hid (show ∀ v, Below (tabs W).heap.size (tabs W) v → (v.cell? ⟨W.heap.size, 16, none⟩ = some (.int .i64 4) ∧ v.cell? ⟨W.heap.size, 17, none⟩ = some (.int .i64 0) ∧ v.cell? ⟨W.heap.size, 18, none⟩ = some (.int .i64 0) ∧ v.cell? ⟨W.heap.size, 19, none⟩ = some (.bool false) ∧ v.cell? ⟨W.heap.size + 1, 4, none⟩ = some (.int .i64 128) ∧ v.cell? ⟨W.heap.size + 1 + 1, 4, none⟩ = some (.string ⟨#[99]⟩)) from fun v hv => by
    obtain ⟨h0, h1, h2⟩ := tab_cell W v hv
    exact ⟨h0 16, h0 17, h0 18, h0 19, h1 4, h2 4⟩)
  have bt := tabs_below W
  have FT := Lib.hid (hb.trans (bt.mono hb.size))
  have BC := bytes_calls 4 0 0 false 128 (tabs W).drew
  obtain ⟨E, hE⟩ : ∃ E, enc 4 0 0 false 128 = E := ⟨_, rfl⟩
  rw [hE] at BC
  have HE := Lib.hid (show E = [99] by rw [← hE]; decide +kernel)
  clear hE bt hb
  go_wp2_with fail
  change Code.wp _ _ _ _ (tabs W)
  generalize tabs W = T at *
  have D0 := Lib.hid (show Below T.heap.size T T.drew from (Below.refl T.heap.size T).drew)
  go_region_held (fun v => v.cell? ⟨W.heap.size, 16, none⟩ = some (.int .i64 4) ∧ v.cell? ⟨W.heap.size, 17, none⟩ = some (.int .i64 0) ∧ v.cell? ⟨W.heap.size, 18, none⟩ = some (.int .i64 0) ∧ v.cell? ⟨W.heap.size, 19, none⟩ = some (.bool false) ∧ v.cell? ⟨W.heap.size + 1, 4, none⟩ = some (.int .i64 128) ∧ v.cell? ⟨W.heap.size + 1 + 1, 4, none⟩ = some (.string ⟨#[99]⟩)) (first | exact KT.out _ D0.out | exact KT.out _ (by assumption))
    ((go_at_call 9; (with_reducible refine BC.mono ?_); rintro e w4 ⟨A4, c4, rfl, rd4, bel4⟩; have q4 := run_conv w4 A4 c4 E rd4; unfold strV at q4; have b4 : Below T.heap.size T w4 := (Below.refl T.heap.size T).drew.trans bel4))
  have FB := Lib.hid (FT.out.trans (b4.mono FT.out.size))
  clear b4 q4 rd4 bel4
  go_wp2
  go_ret
  exact ⟨by rw [HE.out]; rfl, FB.out⟩
end Go.Proofs.Ythakcaofihacdaa

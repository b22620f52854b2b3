/- The law FrameRows, walked. Condition: the slices read as their rows and numbers. -/
import Derived.Test.YtnogdlekijpdhaaFraTwo
namespace Go.Proofs.Ytnogdlekijpdhaa
open Go.RowKit
open Fcs Oct Fra
set_option linter.unusedVariables false

theorem fits_yes {n : Nat} {wide : Bool} {x : List UInt8} (h0 : 1 ≤ x.length) (h1 : x.length ≤ n) : fits (n + sumN wide) wide x = [x] := by
  unfold fits
  rw [if_pos ⟨by omega, by omega⟩]
theorem fits_no {n : Nat} {wide : Bool} {x : List UInt8} (h : x.length < 1 ∨ n < x.length) : fits (n + sumN wide) wide x = [] := by
  unfold fits
  rw [if_neg (by omega)]

set_option maxRecDepth 20000 in
set_option maxHeartbeats 4000000 in
theorem FrameRows_near (A : Option Addr) (c : Nat) (ls : List (List UInt8)) (B : Option Addr) (m d : Nat) (zs : List Int) (n : Nat) (wide : Bool) (w : World) (hr : RdR w A ls)
    (hz : ∀ k, k < m → ∃ b off v, B = some ⟨b, off, none⟩ ∧ b < w.heap.size ∧ w.cell? ⟨b, off + k, none⟩ = some (.int .i64 v)) (hl : ls.length ≤ 20) (hm : ¬ m < ls.length) (hmm : m ≤ 9223372036854775807) (hn1 : 1 ≤ n) (hn2 : n ≤ 300) :
    Calls Try.prog 5 #[.slice A ls.length c, .slice B m d, .int .i64 (n : Int), .bool wide] w fun e w' => e = .returned (.bool true) ∧ Below w.heap.size w w' := by
  have hLim : limit (n : Int) wide = n + sumN wide := by unfold limit most; omega
  have HZ := Lib.hid hz
  clear hz
  obtain ⟨N, hN⟩ : ∃ N, ls.length = N := ⟨_, rfl⟩
  have HN := Lib.hid hN
  rw [hN] at hl hm
  rw [hN]
  clear hN
  go_enter Try.func5, Try.ntmps5
  go_wp2_with fail
  refine (alive_calls w).mono ?_
  rintro e W ⟨rfl, hb⟩
  have hrW := hr.below hb
  have hst := Lib.hid (show RwRel W (n + sumN wide) wide N (.slice none 0 0) (.slice none 0 0) (.int .i64 0) W from ⟨0, none, 0, [], none, 0, [], Nat.zero_le _, rfl, rfl, rfl, ⟨Own.nil _ _, SOwn.nil _ _, by simp [blk], Below.refl _ _⟩, inv_nil _ _, Nat.zero_le _, Nat.zero_le _⟩)
  clear hr
  go_wp2
  go_loopw [10, 11, 12] (RwRel W (n + sumN wide) wide N) (fun _ _ i _ => N - (intOf i).toNat)
  case atStart => exact hst.out
  case round =>
    clear hst
    obtain ⟨k, A1, c1, bs, B1, d1, ss, hk, rfl, rfl, rfl, two, inv, hbl, hsl⟩ := hrel
    have bF := hb.trans (two.2.2.2.mono hb.size)
    by_cases hlt : k < N
    · have hlt' : k < ls.length := by rw [HN.out]; exact hlt
      obtain ⟨b, off, C, e, rfl, hbb, hc0, hrx0, hxm⟩ := hrW.at_ hlt'
      obtain ⟨zb, zo, zv, rfl, hzb, hzc⟩ := HZ.out k (by omega)
      generalize ls.getD k [] = x at hc0 hrx0 hxm
      have HKC := Lib.hid (show ∀ w', Below W.heap.size W w' → (w'.cell? ⟨b, off + k, none⟩ = some (.slice C x.length e) ∧ b < w'.heap.size ∧ Rd w' C x) from fun w' bl => ⟨(bl.cell hbb).trans hc0, Nat.lt_of_lt_of_le hbb bl.size, hrx0.below bl⟩)
      have HZC := Lib.hid (show ∀ w', Below W.heap.size W w' → (w'.cell? ⟨zb, zo + k, none⟩ = some (.int .i64 zv) ∧ zb < w'.heap.size) from fun w' bl => ⟨((hb.trans (bl.mono hb.size)).cell hzb).trans hzc, Nat.lt_of_lt_of_le hzb (Nat.le_trans hb.size bl.size)⟩)
      obtain ⟨hc, hbb1, hrx⟩ := HKC.out wr two.2.2.2
      clear hc0 hrx0 hzc hbb
      by_cases h2 : 300 < x.length
      · clear two inv hrx
        go_wp2
        go_ret
        exact ⟨rfl, bF⟩
      · have pc := frput_calls wide C e x wr hrx (by omega)
        have hfl := frame_len wide x (by omega)
        have TW := Lib.hid two
        have IV := Lib.hid (inv_frame inv x)
        generalize frame wide x = f at *
        obtain ⟨t, ht⟩ : ∃ t : Nat, zv % 4 = (t : Int) := ⟨(zv % 4).toNat, by omega⟩
        have hand : bits .and .i64 zv 3 = (t : Int) := by rw [i64_and3]; exact ht
        have ht3 : t ≤ 3 := by omega
        clear two inv ht hrx
        go_wp2_with fail
        refine pc.mono ?_
        rintro e2 w2 ⟨A2, c2, rfl, own2, bel2⟩
        clear pc
        obtain ⟨A3, c3, w3, run3, two3⟩ := (TW.out.below bel2).app A2 c2 f own2.rd (by omega) (by omega)
        obtain ⟨hz3, hzb3⟩ := HZC.out w3 two3.2.2.2
        have hl3 : (bs ++ f).length ≤ 2020 * k + 2010 := by rw [List.length_append]; omega
        have TW3 := Lib.hid two3
        clear own2 TW two3 hc hbb1 HZC
        generalize bs ++ f = bs3 at *
        go_wp2_with (at_builtin; refine Lib.wpList_append_run _ rfl _ _ _ _ rfl _ _ rfl rfl _ _ (run3 _) ?_)
        clear run3 hand hz3 hzb3
        go_loopw [10, 13] (FlRel W (n + sumN wide) wide B1 d1 (ss ++ fits (n + sumN wide) wide x) ss (2020 * k + 2013)) (fun _ i _ => (intOf i).toNat)
        case atStart => exact ⟨t, A3, c3, bs3, ht3, rfl, rfl, TW3.out, IV.out, by omega⟩
        case round =>
          obtain ⟨t4, A4, c4, bs4, ht4, rfl, rfl, two4, iv4, hl4⟩ := hrel
          clear TW3 IV
          by_cases h0 : 0 < t4
          · obtain ⟨A5, c5, w5, run5, two5⟩ := two4.app_new [126] (by simp; omega) (by simp)
            obtain ⟨t5, rfl⟩ : ∃ t5, t4 = t5 + 1 := ⟨t4 - 1, by omega⟩
            have HE := Lib.hid (show FlRel W (n + sumN wide) wide B1 d1 (ss ++ fits (n + sumN wide) wide x) ss (2020 * k + 2013) (.slice A5 (bs4 ++ [126]).length c5) (.int .i64 (t5 : Int)) w5 from ⟨t5, A5, c5, _, by omega, rfl, rfl, two5, inv_flag iv4, by rw [List.length_append]; simp; omega⟩)
            clear two4 two5 iv4
            generalize bs4 ++ [126] = bs5 at *
            go_wp2_with (at_builtin; refine Lib.wpList_append_run _ rfl _ _ _ _ rfl _ _ rfl rfl _ _ (run5 _) ?_)
            go_roundw
            case rel =>
              have e5 : ((t5 : Int) + 1 - 1) = (t5 : Int) := by omega
              first | exact HE.out | (rw [e5]; exact HE.out) | (simpa using HE.out)
            case measure => simp [intOf]
          · obtain ⟨hc, hbb1, hrx⟩ := HKC.out wr two4.2.2.2
            have TW4 := Lib.hid two4
            have IV4 := Lib.hid iv4.inv
            clear two4 iv4
            by_cases h1 : x.length < 1
            · have g1 : ¬ (1 : Int) ≤ (x.length : Int) := by omega
              have d1' : decide ((1 : Int) ≤ (x.length : Int)) = false := decide_eq_false g1
              have HE := Lib.hid (show RwRel W (n + sumN wide) wide N (.slice A4 bs4.length c4) (.slice B1 ss.length d1) (.int .i64 ((k : Int) + 1)) wr from ⟨k + 1, A4, c4, bs4, B1, d1, ss, by omega, by rw [Int.natCast_add]; rfl, rfl, rfl, TW4.out, by have := IV4.out; rwa [fits_no (.inl h1), List.append_nil] at this, by omega, by omega⟩)
              clear TW4 IV4 hrx
              go_wp2
              go_roundw
              case rel => exact HE.out
              case measure => simp [intOf]; omega
            · by_cases h3 : x.length ≤ n
              · have q4 := run_conv wr C e x hrx
                unfold strV at q4
                obtain ⟨B6, d6, w6, run6, two6⟩ := TW4.out.appS x (by omega)
                have HE := Lib.hid (show RwRel W (n + sumN wide) wide N (.slice A4 bs4.length c4) (.slice B6 (ss ++ [x]).length d6) (.int .i64 ((k : Int) + 1)) w6 from ⟨k + 1, A4, c4, bs4, B6, d6, _, by omega, by rw [Int.natCast_add]; rfl, rfl, rfl, two6, by have := IV4.out; rwa [fits_yes (by omega) h3] at this, by omega, by rw [List.length_append]; simp; omega⟩)
                clear TW4 IV4 two6 hrx
                unfold laidS strV at run6
                generalize ss ++ [x] = ss6 at *
                go_wp2_with (at_builtin; refine Lib.wpList_append_run _ rfl _ _ _ _ rfl _ _ rfl rfl _ _ (run6 _) ?_)
                go_roundw
                case rel => exact HE.out
                case measure => simp [intOf]; omega
              · have HE := Lib.hid (show RwRel W (n + sumN wide) wide N (.slice A4 bs4.length c4) (.slice B1 ss.length d1) (.int .i64 ((k : Int) + 1)) wr from ⟨k + 1, A4, c4, bs4, B1, d1, ss, by omega, by rw [Int.natCast_add]; rfl, rfl, rfl, TW4.out, by have := IV4.out; rwa [fits_no (.inr (by omega)), List.append_nil] at this, by omega, by omega⟩)
                clear TW4 IV4 hrx
                go_wp2
                go_roundw
                case rel => exact HE.out
                case measure => simp [intOf]; omega
    · have hd := heard_calls (n : Int) wide A1 c1 bs wr two.1.rd (by omega) (by omega) (by omega)
      rw [hLim, inv.1] at hd
      have SO := Lib.hid two.2.1
      have BW := Lib.hid two.2.2.2
      clear two inv
      go_wp2_with fail
      refine hd.mono ?_
      rintro e2 w2 ⟨A2, c2, rfl, own2, bel2⟩
      clear hd
      have b2 := bF.trans (bel2.mono bF.size)
      have O2 := Lib.hid own2
      have SO2 := Lib.hid (SO.out.below bel2)
      clear own2 SO BW
      go_wp2
      go_loopw [15] (fun i wr' => ∃ k : Nat, k ≤ ss.length ∧ i = .int .i64 k ∧ Below w2.heap.size w2 wr') (fun i _ => ss.length - (intOf i).toNat)
      case atStart => exact ⟨0, Nat.zero_le _, rfl, Below.refl _ _⟩
      case round =>
        obtain ⟨k2, hk2, rfl, belr⟩ := hrel
        have bR := b2.trans (belr.mono b2.size)
        by_cases hlt2 : k2 < ss.length
        · obtain ⟨g, rfl, _, hg2, hgc⟩ := O2.out.at_ hlt2
          obtain ⟨g', rfl, _, hg2', hgc'⟩ := SO2.out.at_ hlt2
          generalize ss.getD k2 [] = x at *
          unfold strV at hgc hgc'
          have HK := Lib.hid (show ∀ w', Below wr.heap.size wr w' → (w'.cell? ⟨g, k2, none⟩ = some (.string ⟨x.toArray⟩) ∧ w'.cell? ⟨g', k2, none⟩ = some (.string ⟨x.toArray⟩)) from
            fun w' bl => ⟨(bl.cell (Nat.lt_of_lt_of_le hg2 belr.size)).trans ((belr.cell hg2).trans hgc), (bl.cell (Nat.lt_of_lt_of_le hg2' belr.size)).trans ((belr.cell hg2').trans hgc')⟩)
          have i1 : (0 : Int) ≤ (k2 : Int) := by omega
          have i2 : (k2 : Int) < (ss.length : Int) := by omega
          clear hgc hgc'
          go_wp2
          go_region_held (fun w' => w'.cell? ⟨g, k2, none⟩ = some (.string ⟨x.toArray⟩) ∧ w'.cell? ⟨g', k2, none⟩ = some (.string ⟨x.toArray⟩)) (first | exact HK.out _ (Below.refl _ _).drew | exact HK.out _ (Below.refl _ _)) (fail)
          go_wp2
          go_roundw
          case rel => exact ⟨k2 + 1, by omega, by go_num, belr.drew⟩
          case measure => simp [intOf]; omega
        · go_wp2
          go_ret
          exact ⟨rfl, bR⟩
theorem FrameRows_walk (a0 : Option Addr) (len0 cap0 : Nat) (a1 : Option Addr) (len1 cap1 : Nat) (z1 : List Int) (a2 : Int) (a3 : Bool) (w : World) (h0 : IsRows w a0 len0 cap0)
    (h1 : (a1 = none ∧ len1 = 0 ∧ cap1 = 0 ∧ z1 = []) ∨ ∃ x, a1 = some x ∧ len1 ≤ cap1 ∧ cap1 ≤ maxLen ∧ z1.length = cap1 ∧ (∀ i, i < z1.length → w.cell? (x.add i) = some (.int .i64 (z1.getD i 0))) ∧ ∀ n ∈ z1, (Lit.int .i64 n).wf = true) (w2 : (Lit.int .i64 a2).wf = true) :
    Calls Try.prog 5 #[.slice a0 len0 cap0, .slice a1 len1 cap1, .int .i64 a2, .bool a3] w fun e w' => e = .returned (.bool true) ∧ Below w.heap.size w w' := by
  obtain ⟨ls, rfl, hc, hm, hr⟩ := h0
  have hm1 : len1 ≤ 9223372036854775807 := by
    rcases h1 with ⟨_, h, _⟩ | ⟨x, _, h2, h3, _⟩
    · omega
    · unfold maxLen at h3; omega
  have hz : ∀ k, k < len1 → ∃ b off v, a1 = some ⟨b, off, none⟩ ∧ b < w.heap.size ∧ w.cell? ⟨b, off + k, none⟩ = some (.int .i64 v) := by
    intro k hk
    rcases h1 with ⟨_, h, _⟩ | ⟨x, rfl, h2, h3, h4, h5, _⟩
    · omega
    · obtain ⟨b, off, rfl, hcell⟩ := ints_at h5 (by omega)
      exact ⟨b, off, _, rfl, World.block_lt_of_cell? w _ (hcell k (by omega)), hcell k (by omega)⟩
  unfold maxLen at hm
  by_cases h : ls.length ≤ 20 ∧ ¬ len1 < ls.length ∧ 1 ≤ a2 ∧ a2 ≤ 300
  · obtain ⟨n, rfl⟩ : ∃ n : Nat, a2 = (n : Int) := ⟨a2.toNat, by omega⟩
    exact FrameRows_near a0 cap0 ls a1 len1 cap1 z1 n a3 w hr hz h.1 h.2.1 hm1 (by omega) (by omega)
  · exact FrameRows_far a0 ls.length cap0 a1 len1 cap1 a2 a3 w (by omega) hm1 (by omega)
end Go.Proofs.Ytnogdlekijpdhaa

/- The law FrameNoise, walked. Condition: the slices read as their octets. -/
import Derived.Test.YtnogdlekijpdhaaFraAlive
import Derived.Test.YtnogdlekijpdhaaStepApp
import Derived.IntWalk
namespace Go.Proofs.Ytnogdlekijpdhaa
open Go.RowKit
open Fcs Oct Fra
set_option linter.unusedVariables false

theorem FrameNoise_far (A : Option Addr) (n c : Nat) (B : Option Addr) (m d : Nat) (wide : Bool) (w : World) (hn : n ≤ 9223372036854775807) (hm : m ≤ 9223372036854775807) (h : 300 < n ∨ (n ≤ 300 ∧ m < 1) ∨ (n ≤ 300 ∧ ¬ m < 1 ∧ 200 < m)) :
    Calls Try.prog 6 #[.slice A n c, .slice B m d, .bool wide] w fun e w' => e = .returned (.bool true) ∧ Below w.heap.size w w' := by
  rcases h with h | ⟨h0, h⟩ | ⟨h0, h1, h⟩
  all_goals
    go_enter Try.func6, Try.ntmps6
    go_wp2_with fail
    refine (alive_calls w).mono ?_
    rintro e w' ⟨rfl, hb⟩
    go_wp2
    go_ret
    exact ⟨rfl, hb⟩
set_option maxHeartbeats 1000000 in
theorem FrameNoise_near (A : Option Addr) (c : Nat) (l : List UInt8) (B : Option Addr) (d : Nat) (y : List UInt8) (wide : Bool) (w : World) (hr : Rd w A l) (hry : Rd w B y) (hl : l.length ≤ 300) (hy0 : ¬ y.length < 1) (hy : y.length ≤ 200) :
    Calls Try.prog 6 #[.slice A l.length c, .slice B y.length d, .bool wide] w fun e w' => e = .returned (.bool true) ∧ Below w.heap.size w w' := by
  have hfl := frame_len wide y (by omega)
  have TL := Lib.hid (told_last (L := limit 300 wide) (wide := wide) .out l y (by omega) (by unfold limit; have : most 300 = 300 := rfl; omega))
  have EQ := Lib.hid (show l ++ [126] ++ frame wide y = l ++ 126 :: frame wide y by simp)
  have pc := Lib.hid (fun (A : Option Addr) (c : Nat) (w : World) (hr : Rd w A y) => frput_calls wide A c y w hr (by omega))
  generalize frame wide y = f at *
  go_enter Try.func6, Try.ntmps6
  go_wp2_with fail
  refine (alive_calls w).mono ?_
  rintro e W ⟨rfl, hb⟩
  obtain ⟨A1, c1, w1, run1, own1, bel1⟩ := run_app W W.heap.size none 0 [] (Own.nil _ _) A c l (hr.below hb) (by simp; omega) (Nat.le_refl _)
  rw [List.nil_append] at run1 own1
  obtain ⟨A2, c2, w2, run2, own2, bel2⟩ := app_new w1 W.heap.size A1 c1 l [126] own1 bel1.size (by simp; omega)
  have b2 := hb.trans ((bel1.trans bel2).mono hb.size)
  have p2 := pc.out B d w2 (hry.below b2)
  have O2 := Lib.hid own2
  have hlen2 : (l ++ [126]).length ≤ 301 := by simp; omega
  generalize l ++ [126] = l2 at *
  clear own1 own2 pc
  have bW := bel1.trans bel2
  clear bel1 bel2
  go_wp2_with (first | (at_builtin; refine Lib.wpList_append_run _ rfl (.const (.slice none 0 0)) (.tmp 29) _ _ rfl _ _ rfl rfl _ _ (run1 _) ?_) | (at_builtin; refine Lib.wpList_append_run _ rfl (.tmp 30) (.tmp 31) _ _ rfl _ _ rfl rfl _ _ (run2 _) ?_))
  refine p2.mono ?_
  rintro e w3 ⟨A3, c3, rfl, own3, bel3⟩
  clear run1 run2 p2
  have b3 := b2.trans (bel3.mono b2.size)
  have bW3 := bW.trans (bel3.mono bW.size)
  obtain ⟨A4, c4, w4, run4, own4, bel4⟩ := run_app w3 W.heap.size A2 c2 l2 (O2.out.below bel3) A3 c3 f own3.rd (by omega) bW3.size
  have b4 := b3.trans (bel4.mono hb.size)
  have hd := heard_calls 300 wide A4 c4 _ w4 own4.rd (by decide) (by decide) (by simp; omega)
  obtain ⟨pre, hpre⟩ : ∃ pre, pre = told (limit 300 wide) wide .out l2 := ⟨_, rfl⟩
  rw [show told (limit 300 wide) wide .out (l2 ++ f) = pre ++ [y] by rw [EQ.out, TL.out, hpre]] at hd
  clear own3 own4 O2 hpre TL EQ
  generalize l2 ++ f = lf at *
  go_wp2_with (at_builtin; refine Lib.wpList_append_run _ rfl _ _ _ _ rfl _ _ rfl rfl _ _ (run4 _) ?_)
  refine hd.mono ?_
  rintro e w5 ⟨A5, c5, rfl, own5, bel5⟩
  clear run4 hd
  have b5 := b4.trans (bel5.mono b4.size)
  obtain ⟨g, rfl, _, hg5, hc5⟩ := own5.at_ (j := pre.length) (by simp)
  have hlen5 : (pre ++ [y]).length = pre.length + 1 := by simp
  have hc5 : w5.cell? ⟨g, pre.length, none⟩ = some (.string ⟨y.toArray⟩) := by rw [hc5]; simp [strV]
  have hcap5 := World.ownsRow.lt own5
  rw [hlen5]
  have hpl : pre.length ≤ 9223372036854775806 := by
    rcases own5.2 with ⟨hv, h0⟩ | ⟨g', cap, cur, hv, _, _, h1, h2, _⟩
    · omega
    · unfold maxLen at h2; omega
  generalize pre.length = m at *
  have HK := Lib.hid (show ∀ w', Below w5.heap.size w5 w' → (w'.cell? ⟨g, m, none⟩ = some (.string ⟨y.toArray⟩) ∧ (convert 22 9 (.slice B y.length d)).run Try.prog w' = .ok (.string ⟨y.toArray⟩) w') from
    fun w' bel => ⟨(bel.cell hg5).trans hc5, run_conv w' B d y ((hry.below b5).below bel)⟩)
  clear own5 hlen5 hcap5 hc5 hry hr
  have i1 : (1 : Int) ≤ (m : Int) + 1 := by omega
  have i2 : IntKind.i64.wrap ((m : Int) + 1 - 1) = (m : Int) := by rw [IntKind.wrap_i64]; omega
  have i3 : IntKind.i64.wrap (m : Int) = (m : Int) := by rw [IntKind.wrap_i64]; omega
  have i4 : (0 : Int) ≤ (m : Int) := by omega
  have i5 : (m : Int) < (m : Int) + 1 := by omega
  go_wp2
  go_region_held (fun w' => w'.cell? ⟨g, m, none⟩ = some (.string ⟨y.toArray⟩) ∧ (convert 22 9 (.slice B y.length d)).run Try.prog w' = .ok (.string ⟨y.toArray⟩) w') (first | exact HK.out _ (Below.refl _ _).drew | exact HK.out _ (Below.refl _ _)) (fail)
  go_wp2
  go_ret
  exact ⟨rfl, b5.drew⟩
theorem FrameNoise_walk (a0 : Option Addr) (len0 cap0 : Nat) (z0 : List Int) (a1 : Option Addr) (len1 cap1 : Nat) (z1 : List Int) (a2 : Bool) (w : World)
    (h0 : (a0 = none ∧ len0 = 0 ∧ cap0 = 0 ∧ z0 = []) ∨ ∃ x, a0 = some x ∧ len0 ≤ cap0 ∧ cap0 ≤ maxLen ∧ z0.length = cap0 ∧ (∀ i, i < z0.length → w.cell? (x.add i) = some (.int .u8 (z0.getD i 0))) ∧ ∀ n ∈ z0, (Lit.int .u8 n).wf = true)
    (h1 : (a1 = none ∧ len1 = 0 ∧ cap1 = 0 ∧ z1 = []) ∨ ∃ x, a1 = some x ∧ len1 ≤ cap1 ∧ cap1 ≤ maxLen ∧ z1.length = cap1 ∧ (∀ i, i < z1.length → w.cell? (x.add i) = some (.int .u8 (z1.getD i 0))) ∧ ∀ n ∈ z1, (Lit.int .u8 n).wf = true) :
    Calls Try.prog 6 #[.slice a0 len0 cap0, .slice a1 len1 cap1, .bool a2] w fun e w' => e = .returned (.bool true) ∧ Below w.heap.size w w' := by
  obtain ⟨l0, rfl, hc0, hm0, hr0⟩ := Rd.of_row h0
  obtain ⟨l1, rfl, hc1, hm1, hr1⟩ := Rd.of_row h1
  unfold maxLen at hm0 hm1
  by_cases h : l0.length ≤ 300 ∧ ¬ l1.length < 1 ∧ l1.length ≤ 200
  · exact FrameNoise_near a0 cap0 l0 a1 cap1 l1 a2 w hr0 hr1 h.1 h.2.1 h.2.2
  · exact FrameNoise_far a0 l0.length cap0 a1 l1.length cap1 a2 w (by omega) (by omega) (by omega)
end Go.Proofs.Ytnogdlekijpdhaa

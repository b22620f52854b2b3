/- The law FrameShares, walked. Condition: the slice reads as its rows. -/
import Derived.Test.YtnogdlekijpdhaaFraAlive
import Derived.Test.YtnogdlekijpdhaaStepApp
import Derived.Test.YtnogdlekijpdhaaBytesRows
import Derived.Test.YtnogdlekijpdhaaBytesSet
namespace Go.Proofs.Ytnogdlekijpdhaa
open Go.RowKit
open Fcs Oct Fra
set_option linter.unusedVariables false

theorem told_shares {L : Nat} {wide : Bool} (ls : List (List UInt8)) (h : ∀ x ∈ ls, 0 < x.length ∧ x.length + sumN wide ≤ L) : told L wide (.rd false []) (ls.flatMap (Fra.rest wide)) = ls := by
  induction ls with
  | nil => rfl
  | cons x ls ih =>
    rw [List.flatMap_cons, told_append, told_rest, after_rest, ih (fun y hy => h y (by simp [hy]))]
    unfold fits
    rw [if_pos (h x (by simp))]
    rfl
theorem told_shares_out {L : Nat} {wide : Bool} (ls : List (List UInt8)) (h : ∀ x ∈ ls, 0 < x.length ∧ x.length + sumN wide ≤ L) : told L wide .out (126 :: ls.flatMap (Fra.rest wide)) = ls := by
  show good wide _ 126 ++ told L wide (next L _ 126) _ = _
  rw [good_out, next_flag, told_shares ls h]
  rfl
/-- behind k of the rows -/
def ShRel (W : World) (wide : Bool) (ls : List (List UInt8)) (v i : Value) (wr : World) : Prop :=
  ∃ (k : Nat) (A : Option Addr) (c : Nat) (bs : List UInt8), k ≤ ls.length ∧ i = .int .i64 k ∧ v = .slice A bs.length c ∧ Own wr W.heap.size A c bs ∧ Below W.heap.size W wr ∧ bs = 126 :: (ls.take k).flatMap (Fra.rest wide) ∧ bs.length ≤ 1 + 2010 * k ∧ ∀ x ∈ ls.take k, 0 < x.length ∧ x.length ≤ 100
theorem rest_len (wide : Bool) (x : List UInt8) (hx : x.length ≤ 100) : (Fra.rest wide x).length ≤ 2009 ∧ 1 ≤ (Fra.rest wide x).length := by
  have h := frame_len wide x (by omega)
  have e : (frame wide x).length = (Fra.rest wide x).length + 1 := by unfold frame; simp
  omega

theorem FrameShares_far (A : Option Addr) (n c : Nat) (wide : Bool) (w : World) (hl : 20 < n) (hm : n ≤ 9223372036854775807) :
    Calls Try.prog 8 #[.slice A n c, .bool wide] w fun e w' => e = .returned (.bool true) ∧ Below w.heap.size w w' := by
  go_enter Try.func8, Try.ntmps8
  go_wp2_with fail
  refine (alive_calls w).mono ?_
  rintro e w' ⟨rfl, hb⟩
  go_wp2
  go_ret
  exact ⟨rfl, hb⟩
set_option maxHeartbeats 2000000 in
theorem FrameShares_near (A : Option Addr) (c : Nat) (ls : List (List UInt8)) (wide : Bool) (w : World) (hr : RdR w A ls) (hl : ls.length ≤ 20) :
    Calls Try.prog 8 #[.slice A ls.length c, .bool wide] w fun e w' => e = .returned (.bool true) ∧ Below w.heap.size w w' := by
  go_enter Try.func8, Try.ntmps8
  go_wp2_with fail
  refine (alive_calls w).mono ?_
  rintro e W ⟨rfl, hb⟩
  have hrW := hr.below hb
  have hst := Lib.hid (show ShRel W wide ls (.slice (some ⟨W.heap.size, 0, none⟩) 1 1) (.int .i64 0) (laid W [126]) from ⟨0, _, _, [126], Nat.zero_le _, rfl, rfl, laid_own W [126] (by simp), laid_below W [126], by simp, by simp, by simp⟩)
  clear hr
  go_wp2
  go_loopw [6, 7] (ShRel W wide ls) (fun _ i _ => ls.length - (intOf i).toNat)
  case atStart => exact hst.out
  case round =>
    clear hst
    obtain ⟨k, A1, c1, bs, hk, rfl, rfl, own, bel, hbs, hbl, hok⟩ := hrel
    have bF := hb.trans (bel.mono hb.size)
    have HBS := Lib.hid hbs
    clear hbs
    by_cases hlt : k < ls.length
    · obtain ⟨b, off, B, d, rfl, hbb, hc, hrx, hxm⟩ := (hrW.below bel).at_ hlt
      have hgd : ls.getD k [] = ls[k] := by rw [List.getD_eq_getElem?_getD, List.getElem?_eq_getElem hlt]; rfl
      have htk := Lib.hid (List.take_succ_eq_append_getElem hlt)
      rw [hgd] at hc hrx hxm
      generalize ls[k] = x at hc hrx hxm htk
      by_cases h1 : x.length < 1
      · clear own
        go_wp2
        go_ret
        exact ⟨rfl, bF⟩
      · by_cases h2 : 100 < x.length
        · clear own
          go_wp2
          go_ret
          exact ⟨rfl, bF⟩
        · have hrl := rest_len wide x (by omega)
          have pc := frput_calls wide B d x wr hrx (by omega)
          have hfr : frame wide x = 126 :: Fra.rest wide x := rfl
          have O1 := Lib.hid own
          have HS0 := Lib.hid (show ∀ A' c' w', Own w' W.heap.size A' c' (bs ++ Fra.rest wide x) → Below W.heap.size W w' → ShRel W wide ls (.slice A' (bs ++ Fra.rest wide x).length c') (.int .i64 ((k : Int) + 1)) w' from
            fun A' c' w' o bl => ⟨k + 1, A', c', _, by omega, by rw [Int.natCast_add]; rfl, rfl, o, bl, by rw [HBS.out, htk.out, List.flatMap_append]; simp, by rw [List.length_append]; omega, by
              intro y hy
              rw [htk.out] at hy
              rcases List.mem_append.mp hy with h | h
              · exact hok y h
              · simp at h
                subst h
                omega⟩)
          rw [hfr] at pc
          generalize Fra.rest wide x = r at *
          clear hfr own hok htk HBS hgd
          go_wp2_with fail
          refine pc.mono ?_
          rintro e w2 ⟨A2, c2, rfl, own2, bel2⟩
          clear pc
          have hcap := own2.cap
          rw [List.length_cons] at hcap
          unfold maxLen at hcap
          obtain ⟨g, rfl, hg, _⟩ := own2.place (j := 0) (by simp)
          have rd2 : Rd w2 (some ⟨g, 1, none⟩) r := by
            have := own2.rd.rest 1 (some ⟨g, 0 + 1, none⟩) (fun _ b' off' h' => by injection h' with h'; injection h' with h1 h2; subst h1 h2; rfl)
            simpa using this
          have bl2 := bel.trans (bel2.mono bel.size)
          obtain ⟨A3, c3, w3, run3, own3, bel3⟩ := run_app w2 W.heap.size A1 c1 bs (O1.out.below bel2) (some ⟨g, 1, none⟩) (c2 - 1) r rd2 (by omega) bl2.size
          have HE := Lib.hid (HS0.out A3 c3 w3 own3 (bl2.trans bel3))
          have i1 : (1 : Int) ≤ (r.length : Int) + 1 := by omega
          have i2 : (r.length : Int) + 1 ≤ (c2 : Int) := by omega
          have i3 : ¬ c2 = 1 := by omega
          have i4 : ¬ c2 - 1 = 0 := by omega
          clear own2 own3 O1 HS0 rd2 hcap
          generalize bs ++ r = bs2 at *
          go_wp2_with (at_builtin; refine Lib.wpList_append_run _ rfl _ _ _ _ rfl _ _ rfl rfl _ _ (run3 _) ?_)
          go_roundw
          case rel => exact HE.out
          case measure => simp [intOf]; omega
    · have ht : ls.take k = ls := List.take_of_length_le (by omega)
      rw [ht] at hok HBS
      have hL : ∀ x ∈ ls, 0 < x.length ∧ x.length + sumN wide ≤ limit 100 wide := fun x hx => by
        have := hok x hx
        have e : limit 100 wide = 100 + sumN wide := rfl
        omega
      have hd := heard_calls 100 wide A1 c1 bs wr own.rd (by decide) (by decide) (by omega)
      rw [show told (limit 100 wide) wide .out bs = ls by rw [HBS.out]; exact told_shares_out ls hL] at hd
      clear own ht hok HBS hL
      go_wp2_with fail
      refine hd.mono ?_
      rintro e w2 ⟨A2, c2, rfl, own2, bel2⟩
      clear hd
      have bl2 := bel.trans (bel2.mono bel.size)
      have b2 := hb.trans (bl2.mono hb.size)
      have O2 := Lib.hid own2
      clear own2
      have hn0 : ((ls.length : Int) != (ls.length : Int)) = false := by simp
      go_wp2
      go_loopw [9] (fun i wr' => ∃ k : Nat, k ≤ ls.length ∧ i = .int .i64 k ∧ Below w2.heap.size w2 wr') (fun i _ => ls.length - (intOf i).toNat)
      case atStart => exact ⟨0, Nat.zero_le _, rfl, Below.refl _ _⟩
      case round =>
        obtain ⟨k2, hk2, rfl, belr⟩ := hrel
        have bR := b2.trans (belr.mono b2.size)
        by_cases hlt2 : k2 < ls.length
        · obtain ⟨b, off, B, d, rfl, hbb, hc, hrx, hxm⟩ := ((hrW.below bl2).below belr).at_ hlt2
          obtain ⟨g, rfl, _, hg2, hgc⟩ := O2.out.at_ hlt2
          generalize ls.getD k2 [] = x at *
          unfold strV at hgc
          have HK := Lib.hid (show ∀ w', Below wr.heap.size wr w' → (w'.cell? ⟨g, k2, none⟩ = some (.string ⟨x.toArray⟩) ∧ w'.cell? ⟨b, off + k2, none⟩ = some (.slice B x.length d) ∧ (convert 22 9 (.slice B x.length d)).run Try.prog w' = .ok (.string ⟨x.toArray⟩) w') from
            fun w' bl => ⟨(bl.cell (Nat.lt_of_lt_of_le hg2 belr.size)).trans ((belr.cell hg2).trans hgc), (bl.cell hbb).trans hc, run_conv w' B d x (hrx.below bl)⟩)
          have i1 : (0 : Int) ≤ (k2 : Int) := by omega
          have i2 : (k2 : Int) < (ls.length : Int) := by omega
          clear hrx hc hgc
          go_wp2
          go_region_held (fun w' => w'.cell? ⟨g, k2, none⟩ = some (.string ⟨x.toArray⟩) ∧ w'.cell? ⟨b, off + k2, none⟩ = some (.slice B x.length d) ∧ (convert 22 9 (.slice B x.length d)).run Try.prog w' = .ok (.string ⟨x.toArray⟩) w') (first | exact HK.out _ (Below.refl _ _).drew | exact HK.out _ (Below.refl _ _)) (fail)
          go_wp2
          go_roundw
          case rel => exact ⟨k2 + 1, by omega, by go_num, belr.drew⟩
          case measure => simp [intOf]; omega
        · go_wp2
          go_ret
          exact ⟨rfl, bR⟩
theorem FrameShares_walk (a0 : Option Addr) (len0 cap0 : Nat) (a1 : Bool) (w : World) (h : IsRows w a0 len0 cap0) :
    Calls Try.prog 8 #[.slice a0 len0 cap0, .bool a1] w fun e w' => e = .returned (.bool true) ∧ Below w.heap.size w w' := by
  obtain ⟨ls, rfl, hc, hm, hr⟩ := h
  by_cases hl : ls.length ≤ 20
  · exact FrameShares_near a0 cap0 ls a1 w hr hl
  · exact FrameShares_far a0 ls.length cap0 a1 w (by omega) (by unfold maxLen at hm; omega)
end Go.Proofs.Ytnogdlekijpdhaa

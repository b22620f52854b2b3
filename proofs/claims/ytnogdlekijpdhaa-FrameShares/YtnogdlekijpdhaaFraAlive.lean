/- The document's example and a frame, as each statement of chapter 5 looks at them first. No condition. -/
import Derived.Test.YtnogdlekijpdhaaFraHeard
import Derived.Test.YtnogdlekijpdhaaFraPut
namespace Go.Proofs.Ytnogdlekijpdhaa
open Go.RowKit
open Fcs Oct Fra
set_option linter.unusedVariables false

/-- behind k of the octets -/
def ARel (W : World) (p : Nat) (L : Nat) (A : Option Addr) (c : Nat) (l : List UInt8) (v i : Value) (wr : World) : Prop :=
  ∃ (k : Nat) (ss : List (List UInt8)) (s : St) (F : Nat → Prop), k ≤ l.length ∧ i = .int .i64 k ∧ v = .int .i64 (ss.length : Int) ∧ PR wr F p L false s ∧ (∀ j, F j → W.heap.size ≤ j) ∧ (∀ j, blk A = some j → ¬ F j) ∧ Own wr 0 A c l ∧
    Below W.heap.size W wr ∧ s.acc.length ≤ L ∧ ss ++ told L false s (l.drop k) = [[97]]
theorem one_only {ss t : List (List UInt8)} {y : List UInt8} (h : (ss ++ [y]) ++ t = [[97]]) : ss = [] ∧ y = [97] := by
  rcases ss with _ | ⟨a, ss⟩
  · simp at h
    exact ⟨rfl, h.1⟩
  · simp at h

set_option maxHeartbeats 1000000 in
theorem alive_calls (w : World) : Calls Try.prog 10 #[] w fun e w' => e = .returned (.bool true) ∧ Below w.heap.size w w' := by
  have hcc := fun (w : World) (C : Array Value) (n c : Nat) => Lib.run_convert_bytes_const (P := Try.prog) w 22 5 C n c Try.underlying22 Try.underlying5
  have NW := new_calls 10 false w
  have hL : limit 10 false = 12 := rfl
  rw [hL] at NW
  have HN := Lib.hid (PR.new w 12 false)
  clear hL
  go_enter Try.func10, Try.ntmps10
  go_wp2_with fail
  refine NW.mono ?_
  rintro e w1 ⟨rfl, rfl⟩
  clear NW
  have hbel : Below w.heap.size w (w.alloc (.cells (pcells 12 false 0 none 0 0) 45)) := (Below.refl _ _).alloc (Nat.le_refl _) _
  have pr := HN.out
  clear HN
  generalize w.alloc (.cells (pcells 12 false 0 none 0 0) 45) = w0 at *
  have PC : Calls Try.prog 13 #[.pointer (some ⟨w.heap.size, 0, none⟩), .int .u8 126] w0 (Pushed _ w.heap.size 12 false .out 126 w0) := push_calls _ w.heap.size 12 false .out 126 w0 pr (Nat.zero_le _)
  unfold Pushed at PC
  rw [show tells false .out 126 = (0, []) from rfl] at PC
  go_wp2_with fail
  refine PC.mono ?_
  rintro e w1 ⟨B1, d1, rfl, own1, pr1, on1⟩
  clear PC pr
  have hF1 : ∀ j, more (fun k => k = w.heap.size) w0 w1 j → w.heap.size ≤ j := more_ge (fun j hj => by rw [hj]; exact Nat.le_refl _) hbel.size
  have bel1 := hbel.trans (on1.below (fun j hj => by rw [hj]; exact Nat.le_refl _) hbel.size)
  have pr1 : PR w1 (more (fun k => k = w.heap.size) w0 w1) w.heap.size 12 false (.rd false []) := pr1
  have r2 := laidM_rd w1 [97]
  have b2 := laidM_below w1 [97]
  have FP := frput_calls false (some ⟨w1.heap.size, 0, none⟩) 1 [97] (laidM w1 [97]) r2 (by decide)
  have pr2 := Lib.hid (pr1.only (Only.of_below (fun _ => False) b2) (fun _ _ h => h))
  have bel2 := bel1.trans (b2.mono bel1.size)
  have HF2 := Lib.hid (show ∀ j, more (fun k => k = w.heap.size) w0 w1 j → j < w1.heap.size from by obtain ⟨_, _, _, _, _, _, _, h6⟩ := pr1; exact h6)
  have hz2 := laidM_size w1 [97]
  clear own1 on1 hbel bel1 b2 r2 pr1
  generalize more (fun k => k = w.heap.size) w0 w1 = F at *
  generalize hfr : frame false [97] = l at *
  have HT := Lib.hid (show [] ++ told 12 false (.rd false []) (l.drop 0) = [[97]] from by rw [← hfr]; exact told_frame [97])
  have hll : l.length ≤ 2010 := by rw [← hfr]; exact (frame_len false [97] (by decide)).1
  clear hfr
  go_wp2_with fail
  refine FP.mono ?_
  rintro e w3 ⟨A3, c3, rfl, own3, bel3⟩
  clear FP
  have pr3 := Lib.hid (pr2.out.only (Only.of_below (fun _ => False) bel3) (fun _ _ h => h))
  have bel4 := bel2.trans (bel3.mono bel2.size)
  have hA3 : ∀ j, blk A3 = some j → ¬ F j := fun j hj hf => by
    have h1 := (own3.blk_ge j hj).1
    have h2 := HF2.out j hf
    omega
  have O3 := Lib.hid (own_mono own3 (Nat.zero_le _))
  clear own3 bel2 bel3 HF2 pr2 hz2
  go_wp2
  go_loopw [5, 6] (ARel w w.heap.size 12 A3 c3 l) (fun _ i _ => l.length - (intOf i).toNat)
  case atStart => exact ⟨0, [], _, F, Nat.zero_le _, rfl, rfl, pr3.out, hF1, hA3, O3.out, bel4, Nat.zero_le _, HT.out⟩
  case round =>
    obtain ⟨k, ss, s, G, hk, rfl, rfl, pr, hG, hA, own, bel, hacc, ht⟩ := hrel
    clear HT pr3 O3 hF1 hA3 bel4
    by_cases hlt : k < l.length
    · obtain ⟨b, off, rfl, hb, hc⟩ := own.rd.at_ hlt
      have hg : l.getD k 0 = l[k] := by simp [hlt]
      rw [hg] at hc
      clear hg
      have ht' := Lib.hid (told_at hlt ht)
      generalize l[k] = x at hc ht'
      have PC := push_calls G w.heap.size 12 false s x wr pr (by omega)
      have hacc' := acc_le (L := 12) s x hacc
      have hsb := own.blk_ge
      unfold bv at hc PC
      unfold Pushed at PC
      have HO := Lib.hid own
      clear pr own ht
      by_cases hgd : (tells false s x).1 = 1
      · have hgo : good false s x = [(tells false s x).2] := by unfold good; rw [if_pos hgd]
        rw [hgo] at ht'
        obtain ⟨rfl, hy⟩ := one_only ht'.out
        rw [hgd, hy] at PC
        rw [hy] at ht'
        clear hgo hgd hy
        go_wp2_with fail
        refine PC.mono ?_
        rintro e w1 ⟨B1, d1, rfl, own1, pr1, on1⟩
        clear PC
        have cv : (convert 22 9 (.slice B1 1 d1)).run Try.prog w1 = .ok (.string ⟨#[97]⟩) w1 := run_conv w1 B1 d1 [97] own1.rd
        have HE := Lib.hid (show ARel w w.heap.size 12 (some ⟨b, off, none⟩) c3 l (.int .i64 1) (.int .i64 ((k : Int) + 1)) w1 from ⟨k + 1, [[97]], _, _, by omega, by rw [Int.natCast_add]; rfl, rfl, pr1, more_ge hG bel.size, fun j hj => more_not (hA j hj) (hsb j hj).2, HO.out.only on1 hA, bel.trans (on1.below hG bel.size), hacc', ht'.out⟩)
        clear own1 pr1 on1 HO ht' hsb
        go_wp2
        go_roundw
        case rel => exact HE.out
        case measure => simp [intOf]; omega
      · have hgo : good false s x = [] := by unfold good; rw [if_neg hgd]
        rw [hgo] at ht'
        have hgb : ((tells false s x).1 == 1) = false := beq_eq_false_iff_ne.mpr hgd
        generalize (tells false s x).2 = y at *
        generalize (tells false s x).1 = z at *
        clear hgo hgd
        go_wp2_with fail
        refine PC.mono ?_
        rintro e w1 ⟨B1, d1, rfl, own1, pr1, on1⟩
        clear PC
        have HE := Lib.hid (show ARel w w.heap.size 12 (some ⟨b, off, none⟩) c3 l (.int .i64 (ss.length : Int)) (.int .i64 ((k : Int) + 1)) w1 from ⟨k + 1, ss, _, _, by omega, by rw [Int.natCast_add]; rfl, rfl, pr1, more_ge hG bel.size, fun j hj => more_not (hA j hj) (hsb j hj).2, HO.out.only on1 hA, bel.trans (on1.below hG bel.size), hacc', by have := ht'.out; rwa [List.append_nil] at this⟩)
        clear own1 pr1 on1 HO ht' hsb
        go_wp2
        go_roundw
        case rel => exact HE.out
        case measure => simp [intOf]; omega
    · have he := told_end (by omega) ht
      have hs1 : ss.length = 1 := by rw [he]; rfl
      rw [hs1]
      clear ht pr own he hs1
      go_wp2
      go_ret
      exact ⟨rfl, bel⟩
end Go.Proofs.Ytnogdlekijpdhaa

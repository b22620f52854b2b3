/- judge of the program's reader: it tells what the plain mathematics tells. Condition: what was received is at most 1000 octets. -/
import Derived.Test.YtnogdlekijpdhaaFraMem
import Derived.Deep.QuietTactic
import Derived.Deep.RegionHeld3
namespace Go.Proofs.Ytnogdlekijpdhaa
open Go.RowKit
open Fcs Oct Fra
set_option linter.unusedVariables false

theorem below_drewN (B : Nat) (w : World) (n : Nat) : Below B w (w.drewN n) := ⟨rfl, rfl, rfl, Nat.le_refl _, fun _ _ => rfl⟩
set_option maxHeartbeats 1000000 in
theorem judge_calls (w : World) (b L : Nat) (wide : Bool) (n : Nat) (A : Option Addr) (c : Nat) (acc : List UInt8) (hb : w.heap[b]? = some (.cells (pcells L wide n A acc.length c) 45 (0, 0))) (own : Own w 0 A c acc) (hacc : acc.length ≤ 1000) :
    Calls Try.prog 21 #[.pointer (some ⟨b, 0, none⟩)] w (Told (judge wide acc) w) := by
  obtain ⟨_, hc1, _, hc3⟩ := pcell hb
  have hbs : b < w.heap.size := lt_of_block hb
  clear hb
  by_cases h0 : acc.length = 0
  · have HJ := Lib.hid (show judge wide acc = (0, []) by unfold judge; rw [if_pos h0])
    rw [h0] at hc3
    clear h0
    go_enter Try.func21, Try.ntmps21
    go_wp2
    go_ret2
    exact told_none HJ.out (Below.refl _ _)
  · have hq : ((acc.length : Int) == 0) = false := beq_eq_false_iff_ne.mpr (by omega)
    have hq' : (acc.length == 0) = false := beq_eq_false_iff_ne.mpr (by omega)
    have hs : ((if wide then 4 else 2 : Int)) = (sumN wide : Int) := by cases wide <;> rfl
    have cs : ∀ w, Calls Try.prog 19 #[.bool wide] w fun e w' => e = .returned (.int .i64 (sumN wide : Int)) ∧ w' = w := fun w => (sumSize_calls wide w).mono fun _ _ h => ⟨by rw [← hs]; exact h.1, h.2.symm⟩
    clear hs
    by_cases h1 : acc.length ≤ sumN wide
    · have HJ := Lib.hid (show judge wide acc = (2, []) by unfold judge; rw [if_neg h0, if_pos h1])
      have h1' : (acc.length : Int) ≤ (sumN wide : Int) := by omega
      clear h0 h1
      go_enter Try.func21, Try.ntmps21
      go_wp2
      go_quiet (first | (go_at_call 19; exact Calls.quiet_of_same (cs _)))
      go_wp2
      go_ret2
      exact told_none HJ.out (below_drewN _ _ _)
    · have h1' : ¬ (acc.length : Int) ≤ (sumN wide : Int) := by omega
      have hcap := own.cap
      have HK := Lib.hid (show ∀ w2, Below w.heap.size w w2 → w2.cell? ⟨b, 3, none⟩ = some (.slice A acc.length c) ∧ w2.cell? ⟨b, 1, none⟩ = some (.bool wide) from fun w2 bel => ⟨(bel.cell hbs).trans hc3, (bel.cell hbs).trans hc1⟩)
      have ck : ∀ m, Calls Try.prog 29 #[.slice A acc.length c, .bool wide] (w.drewN m).drew (ChkOwn wide acc w) := fun m => (checkOwn_calls wide A c acc (w.drewN m).drew (own.rd.drewN m).drew hacc hcap.1 hcap.2).mono fun _ _ ⟨B, d, h1, h2, h3⟩ => ⟨B, d, h1, h2, ((below_drewN _ w m).drew).trans h3⟩
      by_cases h2 : chkE wide acc ≠ 0
      · have HJ := Lib.hid (show judge wide acc = (4, []) by unfold judge; rw [if_neg h0, if_neg h1, if_pos h2])
        have hE : (chkE wide acc == 0) = false := beq_eq_false_iff_ne.mpr h2
        clear h0 h1 h2 hcap own
        go_enter Try.func21, Try.ntmps21
        go_wp2
        go_quiet (first | (go_at_call 19; exact Calls.quiet_of_same (cs _)))
        go_wp2_with fail
        go_region_held3 (fun w' => w'.cell? ⟨b, 3, none⟩ = some (.slice A acc.length c) ∧ w'.cell? ⟨b, 1, none⟩ = some (.bool wide)) (first | exact ⟨hc3, hc1⟩ | exact HK.out _ (by assumption)) (first | (go_at_call 29; refine (ck _).mono ?_; rintro e w2 ⟨B, d, rfl, hB, bel⟩))
        go_wp2
        go_ret2
        exact told_none HJ.out bel
      · have hE : chkE wide acc = 0 := by simpa using h2
        have HJ := Lib.hid (show judge wide acc = (1, chkB wide acc) by unfold judge; rw [if_neg h0, if_neg h1, if_neg h2])
        clear h0 h1 h2 hcap own
        go_enter Try.func21, Try.ntmps21
        go_wp2
        go_quiet (first | (go_at_call 19; exact Calls.quiet_of_same (cs _)))
        go_wp2_with fail
        go_region_held3 (fun w' => w'.cell? ⟨b, 3, none⟩ = some (.slice A acc.length c) ∧ w'.cell? ⟨b, 1, none⟩ = some (.bool wide)) (first | exact ⟨hc3, hc1⟩ | exact HK.out _ (by assumption)) (first | (go_at_call 29; refine (ck _).mono ?_; rintro e w2 ⟨B, d, rfl, hB, bel⟩))
        go_wp2
        go_ret2
        exact ⟨B, d, by rw [HJ.out]; rfl, by rw [HJ.out]; exact hB, bel⟩
end Go.Proofs.Ytnogdlekijpdhaa

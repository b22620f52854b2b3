/- pass of a ring of the program: it goes on in the lengths. Condition: there are as many octets. -/
import Derived.Test.YtpjhehfhpeclhaaRngMem
import Derived.Deep.LoopGhost
namespace Go.Proofs.Ytpjhehfhpeclhaa
open Go.RowKit
set_option linter.unusedVariables false

section
variable {w : World} {F : Nat → Prop} {b R g D : Nat} {o : List UInt8} {wh : List Nat}
/-- the next length comes to the front -/
theorem next_mem {x : Nat} (h : Raw w F b R o g (x :: wh) D) :
    ∃ p off d, w.cell? ⟨b, 3, none⟩ = some (.slice (some ⟨p, off, none⟩) (wh.length + 1) d) ∧ w.cell? ⟨b, 2, none⟩ = some (.int .i64 (g : Int)) ∧ w.cell? ⟨p, off, none⟩ = some (.int .i64 (x : Int)) ∧ w.frozen? ⟨b, 2, none⟩ = false ∧ w.frozen? ⟨b, 3, none⟩ = false ∧ p ≠ b ∧ wh.length + 1 ≤ d ∧ d ≤ maxLen ∧
      ∀ n, Only F w (((w.setCell ⟨b, 2, none⟩ (.int .i64 (x : Int))).setCell ⟨b, 3, none⟩ (.slice (if d = 1 then some ⟨p, off, none⟩ else some ⟨p, off + 1, none⟩) wh.length (d - 1))).drewN n) ∧
        Raw (((w.setCell ⟨b, 2, none⟩ (.int .i64 (x : Int))).setCell ⟨b, 3, none⟩ (.slice (if d = 1 then some ⟨p, off, none⟩ else some ⟨p, off + 1, none⟩) wh.length (d - 1))).drewN n) F b R o x wh D := by
  obtain ⟨A, c, B, d, h1, h2, h3, h4, h5, h6, h7⟩ := h
  have hl := h3.1
  simp at hl
  obtain ⟨p, off, rfl, k0, k1, k2, k3⟩ := MidV.rest (v := iv x) (vs := wh.map iv) h3
  obtain ⟨a1, a2, a3⟩ := rows_apart h1 h2 h3
  have hpb : p ≠ b := fun e => a2 (by rw [e]; rfl)
  refine ⟨p, off, d, (rcell h1).2.2.2.1, (rcell h1).2.2.1, k0, frozen_of_row w b 2 _ _ h1, frozen_of_row w b 3 _ _ h1, hpb, hl, h3.2.1, fun n => ?_⟩
  have h1' := heap_setCell_same w b 2 _ _ (.int .i64 (x : Int)) h1
  have on1 := only_set w ⟨b, 2, none⟩ (.int .i64 (x : Int))
  have on0 : Only F w (w.setCell ⟨b, 2, none⟩ (.int .i64 (x : Int))) := on1.mono (fun k _ e => by rw [e]; exact h4)
  have hm' : MidV 3 (w.setCell ⟨b, 2, none⟩ (.int .i64 (x : Int))) (if d = 1 then some ⟨p, off, none⟩ else some ⟨p, off + 1, none⟩) (d - 1) (wh.map iv) := by
    have hmm : MidV 3 w (if d = 1 then some ⟨p, off, none⟩ else some ⟨p, off + 1, none⟩) (d - 1) (wh.map iv) := by
      split
      · next e => have := k2 e; rw [e]; exact this
      · exact k3
    refine hmm.only on1 (fun k hk e => hpb ?_)
    split at hk <;> (injection hk with hk; exact (show p = k from hk).trans e)
  obtain ⟨_, raw, on2⟩ := raw_setW (F := F) (wh' := wh) h1' (h2.only on1 (fun k hk e => a1 (by rw [hk, e]))) h4 h5 (fun k hk => Nat.lt_of_lt_of_le (h7 k hk) on1.size) hm' (fun k hk => by
    split at hk <;> exact h6 k hk)
  have on3 := on0.trans on2 (fun _ _ h => h)
  exact ⟨⟨on3.os, on3.tape, on3.output, on3.size, on3.block⟩, raw.drewN n⟩
set_option maxHeartbeats 400000 in
theorem pass_calls (h : Raw w F b R o g wh D) (n : Nat) (hn : n ≤ g + wh.sum) (hs : g + wh.sum ≤ 1048576) :
    Calls Try.prog 22 #[.pointer (some ⟨b, 0, none⟩), .int .i64 (n : Int)] w fun e w' => e = .returned (.tuple #[]) ∧ Raw w' F b R o (ps n g wh).1 (ps n g wh).2 D ∧ Only F w w' := by
  have H0 : Aside (Raw w F b R o g wh D ∧ n ≤ g + wh.sum ∧ g + wh.sum ≤ 1048576) := ⟨h, hn, hs⟩
  obtain ⟨r, hr⟩ : ∃ r, r = ps n g wh := ⟨_, rfl⟩
  rw [← hr]
  have HR := Lib.hid hr
  clear h hn hs hr
  go_enter Try.func22, Try.ntmps22
  go_wp2_with fail
  go_loopg [1] wh.length (fun kx s1 wr => ∃ (n' g' : Nat) (wh' : List Nat), s1 = .int .i64 (n' : Int) ∧ wh'.length ≤ kx ∧ Aside (Raw wr F b R o g' wh' D ∧ n' ≤ g' + wh'.sum ∧ g' + wh'.sum ≤ 1048576 ∧ r = ps n' g' wh' ∧ Only F w wr))
  case atStart => exact ⟨n, g, wh, rfl, Nat.le_refl _, H0.out.1, H0.out.2.1, H0.out.2.2, HR.out, Only.refl _ _⟩
  case round =>
    clear H0 HR
    obtain ⟨n', g', wh', rfl, hkx, HO⟩ := hrel
    by_cases hlt : g' < n'
    · have hltz : (g' : Int) < (n' : Int) := by omega
      cases wh' with
      | nil => have := HO.out.2.1; simp at this; omega
      | cons x wh' =>
        obtain ⟨p, off, d, k3, k2, k0, z2, z3, hpb, hd1, hd2, FIN⟩ := next_mem HO.out.1
        unfold maxLen at hd2
        have hn2 : n' ≤ 1048576 := by have := HO.out.2; omega
        have FI : Aside (∀ q, Raw (((wr.setCell ⟨b, 2, none⟩ (.int .i64 (x : Int))).setCell ⟨b, 3, none⟩ (.slice (if d = 1 then some ⟨p, off, none⟩ else some ⟨p, off + 1, none⟩) wh'.length (d - 1))).drewN q) F b R o x wh' D ∧ n' - g' ≤ x + wh'.sum ∧ x + wh'.sum ≤ 1048576 ∧ r = ps (n' - g') x wh' ∧ Only F w (((wr.setCell ⟨b, 2, none⟩ (.int .i64 (x : Int))).setCell ⟨b, 3, none⟩ (.slice (if d = 1 then some ⟨p, off, none⟩ else some ⟨p, off + 1, none⟩) wh'.length (d - 1))).drewN q)) := fun q => by
          obtain ⟨_, h2, h3, h4, h5⟩ := HO.out
          simp at h2 h3
          exact ⟨(FIN q).2, by omega, by omega, by rw [h4, ps_gt hlt], h5.trans (FIN q).1 (fun _ _ h => h)⟩
        simp at hkx
        clear FIN HO
        have hb3 : ¬ (b : Nat) = p := fun e => hpb e.symm
        by_cases hd : d = 1
        · subst hd
          simp only [if_true] at FI
          have hw0 : wh'.length = 0 := by omega
          rw [hw0] at k3 FI
          go_wp2_with fail
          go_region
          go_wp2
          go_roundg 0
          case measure => omega
          case rel => exact ⟨n' - g', x, wh', val_int (by omega), by omega, FI.out 1⟩
        · simp only [hd, if_false] at FI
          go_wp2_with fail
          go_region
          go_wp2
          go_roundg wh'.length
          case measure => omega
          case rel => exact ⟨n' - g', x, wh', val_int (by omega), Nat.le_refl _, FI.out 1⟩
    · have hltz : ¬ (g' : Int) < (n' : Int) := by omega
      have hle : n' ≤ g' := by omega
      obtain ⟨h1, h2, h3, h4, h5⟩ := HO.out
      have z2 := (h1.setG (g' - n')).1
      have FI := Lib.hid (show Raw (wr.setCell ⟨b, 2, none⟩ (.int .i64 ((g' - n' : Nat) : Int))) F b R o r.1 r.2 D ∧ Only F w (wr.setCell ⟨b, 2, none⟩ (.int .i64 ((g' - n' : Nat) : Int))) from ⟨by rw [h4, ps_le hle]; exact (h1.setG (g' - n')).2.1, h5.trans (h1.setG (g' - n')).2.2 (fun _ _ h => h)⟩)
      obtain ⟨A, c, B, d, hb, _⟩ := h1
      have k2 := (rcell hb).2.2.1
      have hg2 : g' ≤ 1048576 := by omega
      have hsub : (g' : Int) - (n' : Int) = ((g' - n' : Nat) : Int) := by omega
      generalize g' - n' = q at *
      clear HO h2 h3 h4 h5 hb
      go_wp2
      go_end0
      exact ⟨rfl, FI.out⟩
end
end Go.Proofs.Ytpjhehfhpeclhaa

/- heard: the bodies that a reader of the program tells of octets, as strings in new memory. Condition: most is from 1 to 300, and there are at most 2^20 octets. -/
import Derived.Test.YtnogdlekijpdhaaFraRecv
namespace Go.Proofs.Ytnogdlekijpdhaa
open Go.RowKit
open Fcs Oct Fra
set_option linter.unusedVariables false

/-- a new reader of the program -/
theorem PR.new (w : World) (L : Nat) (wide : Bool) : PR (w.alloc (.cells (pcells L wide 0 none 0 0) 45)) (fun k => k = w.heap.size) w.heap.size L wide .out :=
  ⟨none, 0, heap_alloc_new w _, Own.nil _ _, by simp [blk], rfl, (fun k hk => by simp [blk] at hk), fun k hk => by rw [hk]; simp⟩
/-- The call returns new strings ss; nothing that was there has turned. -/
def GivesS (ss : List (List UInt8)) (w : World) (e : Ending) (w' : World) : Prop :=
  ∃ B d, e = .returned (.slice B ss.length d) ∧ SOwn w' w.heap.size B d ss ∧ Below w.heap.size w w'
/-- behind k of the octets -/
def HRel (W : World) (L : Nat) (wide : Bool) (l : List UInt8) (r : List (List UInt8)) (v i : Value) (wr : World) : Prop :=
  ∃ (k : Nat) (B : Option Addr) (d : Nat) (ss : List (List UInt8)) (s : St) (F : Nat → Prop), k ≤ l.length ∧ i = .int .i64 k ∧ v = .slice B ss.length d ∧ SOwn wr W.heap.size B d ss ∧ PR wr F W.heap.size L wide s ∧ (∀ j, F j → W.heap.size ≤ j) ∧ (∀ j, blk B = some j → ¬ F j) ∧
    Below W.heap.size W wr ∧ s.acc.length ≤ L ∧ ss.length ≤ k ∧ ss ++ told L wide s (l.drop k) = r
theorem more_ge {F : Nat → Prop} {w w' : World} {n : Nat} (h : ∀ j, F j → n ≤ j) (hn : n ≤ w.heap.size) : ∀ j, more F w w' j → n ≤ j := by
  rintro j (hj | ⟨hj, _⟩)
  · exact h j hj
  · omega
theorem more_not {F : Nat → Prop} {w w' : World} {j : Nat} (h : ¬ F j) (hj : j < w.heap.size) : ¬ more F w w' j := by
  rintro (h' | ⟨h', _⟩)
  · exact h h'
  · omega

set_option maxHeartbeats 1000000 in
theorem heard_calls (n : Int) (wide : Bool) (A : Option Addr) (c : Nat) (l : List UInt8) (w : World) (hr : Rd w A l) (h1 : 1 ≤ n) (h2 : n ≤ 300) (hl : l.length ≤ 1048576) :
    Calls Try.prog 17 #[.int .i64 n, .bool wide, .slice A l.length c] w (GivesS (told (limit n wide) wide .out l) w) := by
  obtain ⟨r, hrr⟩ : ∃ r, told (limit n wide) wide .out l = r := ⟨_, rfl⟩
  have hL : limit n wide ≤ 304 := by unfold limit most; have : sumN wide ≤ 4 := by cases wide <;> decide
                                     omega
  have NW := new_calls n wide w
  rw [hrr]
  generalize limit n wide = L at *
  have HR := Lib.hid hrr
  clear hrr h1 h2
  have HN := Lib.hid (PR.new w L wide)
  go_enter Try.func17, Try.ntmps17
  go_wp2_with fail
  refine NW.mono ?_
  rintro e w1 ⟨rfl, rfl⟩
  clear NW
  have hbel : Below w.heap.size w (w.alloc (.cells (pcells L wide 0 none 0 0) 45)) := (Below.refl _ _).alloc (Nat.le_refl _) _
  have pr := HN.out
  clear HN
  generalize w.alloc (.cells (pcells L wide 0 none 0 0) 45) = w0 at *
  go_wp2
  go_loopw [7, 9] (HRel w L wide l r) (fun _ i _ => l.length - (intOf i).toNat)
  case atStart => exact ⟨0, none, 0, [], .out, _, Nat.zero_le _, rfl, rfl, SOwn.nil _ _, pr, fun j hj => by rw [hj]; exact Nat.le_refl _, fun j hj => by simp [blk] at hj, hbel, Nat.zero_le _, Nat.zero_le _, HR.out⟩
  case round =>
    obtain ⟨k, B, d, ss, s, F, hk, rfl, rfl, so, pr, hF, hB, bel, hacc, hss, ht⟩ := hrel
    clear HR
    by_cases hlt : k < l.length
    · obtain ⟨b, off, rfl, hb, hc⟩ := (hr.below bel).at_ hlt
      have hg : l.getD k 0 = l[k] := by simp [hlt]
      rw [hg] at hc
      clear hg
      have ht' := Lib.hid (told_at hlt ht)
      generalize l[k] = x at hc ht'
      have PC := push_calls F w.heap.size L wide s x wr pr (by omega)
      have hacc' := acc_le (L := L) s x hacc
      have hsb := so.blk_ge
      unfold bv at hc PC
      have HS := Lib.hid so
      have HT := Lib.hid ht
      clear pr so ht
      by_cases hgd : (tells wide s x).1 = 1
      · have hgo : good wide s x = [(tells wide s x).2] := by unfold good; rw [if_pos hgd]
        rw [hgo] at ht'
        unfold Pushed at PC
        rw [hgd] at PC
        generalize (tells wide s x).2 = y at *
        clear hgo hgd
        go_wp2_with fail
        refine PC.mono ?_
        rintro e w1 ⟨B1, d1, rfl, own1, pr1, on1⟩
        clear PC
        have cv := run_conv w1 B1 d1 y own1.rd
        have so1 := HS.out.only on1 hB
        have z1 := on1.size
        obtain ⟨B2, d2, w2, run2, so2, on2, kin2⟩ := appS_only w1 w.heap.size B d ss y so1 (by have := bel.size; omega) (by omega)
        have bel1 := bel.trans (on1.below hF bel.size)
        have hnot : ∀ j, blk B = some j → ¬ more F wr w1 j := fun j hj => more_not (hB j hj) (hsb j hj).2
        have pr2 := pr1.only on2 (fun j hj hj' => hnot j hj' hj)
        have bel2 := bel1.trans (on2.below (fun j hj => (hsb j hj).1) bel1.size)
        have hB2 : ∀ j, blk B2 = some j → ¬ more F wr w1 j := by
          intro j hj hm
          rcases kin2 j hj with h | h
          · exact hnot j h hm
          · obtain ⟨_, _, _, _, _, _, _, hb6⟩ := pr1
            have := hb6 j hm
            omega
        have hss2 : (ss ++ [y]).length ≤ k + 1 := by simp; omega
        have HE := Lib.hid (show HRel w L wide l r (.slice B2 (ss ++ [y]).length d2) (.int .i64 ((k : Int) + 1)) w2 from ⟨k + 1, B2, d2, ss ++ [y], _, _, by omega, by rw [Int.natCast_add]; rfl, rfl, so2, pr2, more_ge hF bel.size, hB2, bel2, hacc', hss2, ht'.out⟩)
        unfold strV laidS strV at *
        clear so1 so2 pr1 pr2 own1 kin2 on1 on2 hnot hB2 bel1 bel2 HS HT ht' hsb hss2
        generalize ss ++ [y] = ss2 at *
        go_wp2_with (at_builtin; refine Lib.wpList_append_run _ rfl _ _ _ _ rfl _ _ rfl rfl _ _ (run2 _) ?_)
        go_roundw
        case rel => exact HE.out
        case measure => simp [intOf]; omega
      · have hgo : good wide s x = [] := by unfold good; rw [if_neg hgd]
        rw [hgo] at ht'
        unfold Pushed at PC
        have hgb : ((tells wide s x).1 == 1) = false := beq_eq_false_iff_ne.mpr hgd
        generalize (tells wide s x).2 = y at *
        generalize (tells wide s x).1 = z at *
        clear hgo hgd
        go_wp2_with fail
        refine PC.mono ?_
        rintro e w1 ⟨B1, d1, rfl, own1, pr1, on1⟩
        clear PC
        have so1 := HS.out.only on1 hB
        have bel1 := bel.trans (on1.below hF bel.size)
        have hnot : ∀ j, blk B = some j → ¬ more F wr w1 j := fun j hj => more_not (hB j hj) (hsb j hj).2
        have HE := Lib.hid (show HRel w L wide l r (.slice B ss.length d) (.int .i64 ((k : Int) + 1)) w1 from ⟨k + 1, B, d, ss, _, _, by omega, by rw [Int.natCast_add]; rfl, rfl, so1, pr1, more_ge hF bel.size, hnot, bel1, hacc', by omega, by have := ht'.out; rwa [List.append_nil] at this⟩)
        clear so1 pr1 own1 on1 hnot bel1 HS HT ht' hsb
        go_wp2
        go_roundw
        case rel => exact HE.out
        case measure => simp [intOf]; omega
    · have he := Lib.hid (told_end (by omega) ht)
      have HS := Lib.hid so
      clear ht pr so
      go_wp2
      go_ret
      have hss : ss = r := he.out
      subst hss
      exact ⟨B, d, rfl, HS.out, bel⟩
end Go.Proofs.Ytnogdlekijpdhaa

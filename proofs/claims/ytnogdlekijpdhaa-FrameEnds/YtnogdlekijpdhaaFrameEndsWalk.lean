/- The law FrameEnds, walked: one theorem a case. Condition: the number is from 1 to 50. -/
import Derived.Test.YtnogdlekijpdhaaFraAlive
import Derived.Test.YtnogdlekijpdhaaFraEnds
import Derived.Test.YtnogdlekijpdhaaBytesSet
namespace Go.Proofs.Ytnogdlekijpdhaa
open Go.RowKit
open Fcs Oct Fra
set_option linter.unusedVariables false

/-- behind k of the octets bs -/
def ERel (W : World) (L : Nat) (wide : Bool) (bs : List UInt8) (N : Nat) (two : Bool) (S : St) (i : Value) (wr : World) : Prop :=
  ∃ (k : Nat) (s : St) (F : Nat → Prop), k ≤ N ∧ i = .int .i64 k ∧ PR wr F W.heap.size L wide s ∧ (∀ j, F j → W.heap.size ≤ j) ∧ Below W.heap.size W wr ∧ s.acc.length ≤ L ∧ after L s (bs.drop k) = S ∧ ∀ j, j < k → ok two bs j
theorem after_at {L : Nat} {s S : St} {l : List UInt8} {k : Nat} (hk : k < l.length) (h : after L s (l.drop k) = S) : after L (next L s l[k]) (l.drop (k + 1)) = S := by
  rw [List.drop_eq_getElem_cons hk] at h
  exact h
theorem after_end {L : Nat} {s S : St} {l : List UInt8} {k : Nat} (hk : l.length ≤ k) (h : after L s (l.drop k) = S) : s = S := by
  rw [List.drop_eq_nil_of_le hk] at h
  exact h
def n1 (n : Int) : Prop := 1 ≤ n ∧ n ≤ 50
theorem n1_nat {n : Int} (h : n1 n) : ∃ m : Nat, n = (m : Int) ∧ 1 ≤ m ∧ m ≤ 50 := ⟨n.toNat, by unfold n1 at h; omega, by unfold n1 at h; omega, by unfold n1 at h; omega⟩
/-- the sum of zeros, as the law calls for it -/
theorem zsum_calls (m : Nat) (wide : Bool) (W : World) (hm : m ≤ 50) : Calls Try.prog 18 #[.slice (some ⟨W.heap.size, 0, none⟩) m m, .bool wide] (laid W (List.replicate m 0)) fun e w' => ∃ B d, e = .returned (.slice B (m + sumN wide) d) ∧ Own w' W.heap.size B d (zsum m wide) ∧ Below W.heap.size W w' := by
  have h := refSum_calls wide (some ⟨W.heap.size, 0, none⟩) m (zs m) (laid W (List.replicate m 0)) (laid_rd W _) (by rw [zs_len]; omega)
  rw [zs_len] at h
  refine h.mono ?_
  rintro e w' ⟨B, d, h1, h2, h3⟩
  have hz := laid_size W (List.replicate m 0)
  refine ⟨B, d, ?_, own_mono h2 (by omega), (laid_below W _).trans (h3.mono (by omega))⟩
  rw [h1, ← zsum_len]
  rfl

set_option maxHeartbeats 2000000 in
theorem FrameEnds_5 (q : Int) (m : Nat) (wide : Bool) (w : World) (hm1 : 1 ≤ m) (hm2 : m ≤ 50) (q0 : (q == 0) = false) (q1 : (q == 1) = false) (q2 : (q == 2) = false) (q5 : (q != 2) = true) (q3 : (q == 3) = false) (q4 : (q == 4) = false) :
    Calls Try.prog 7 #[.int .i64 q, .int .i64 (m : Int), .bool wide] w fun e w' => e = .returned (.bool true) ∧ Below w.heap.size w w' := by
  have hs := sumN_le wide
  have hmk := run_made m (by omega)
  have HEND := Lib.hid (end_5 m wide hm1)
  have hNl := Lib.hid (zsum_len m wide)
  go_enter Try.func7, Try.ntmps7
  go_wp2_with fail
  refine (alive_calls w).mono ?_
  rintro e W ⟨rfl, hb⟩
  have sc := zsum_calls m wide W hm2
  go_wp2_with fail
  refine sc.mono ?_
  rintro e U ⟨B, d, rfl, own, bel0⟩
  clear sc hmk
  have bU := hb.trans (bel0.mono hb.size)
  have HR := Lib.hid own.rd
  obtain ⟨N, hNe⟩ : ∃ N, N = m + sumN wide := ⟨_, rfl⟩
  have hN := Lib.hid (show (zsum m wide).length = N from by rw [hNe]; exact hNl.out)
  have hLim : limit (m : Int) wide = m + sumN wide := by unfold limit most; omega
  have hzl := Lib.hid (zs_len m)
  rw [← hNe]
  rw [← hNe] at HEND hLim
  obtain ⟨L, hLe⟩ : ∃ L, L = N := ⟨_, rfl⟩
  have hL : L ≤ 54 := by omega
  rw [← hLe] at HEND hLim
  generalize zsum m wide = bs at *
  have hN60 : N ≤ 60 := by omega
  clear own hNl hLe hNe
  clear bel0
  have nw := new_calls (m : Int) wide U
  rw [hLim] at nw
  have pr0 := PR.new U L wide
  have bn := (Below.refl U.heap.size U).alloc (Nat.le_refl _) (.cells (pcells L wide 0 none 0 0) 45)
  obtain ⟨S, hS⟩ : ∃ S, after L (.rd false []) bs = S := ⟨_, rfl⟩
  have HS := Lib.hid hS
  clear hS hLim
  have P0 := Lib.hid pr0
  clear pr0
  go_wp2_with fail
  refine nw.mono ?_
  rintro e w1 ⟨rfl, rfl⟩
  clear nw
  have pr0 := P0.out
  clear P0
  generalize U.alloc (.cells (pcells L wide 0 none 0 0) 45) = u1 at *
  have PC : Calls Try.prog 13 #[.pointer (some ⟨U.heap.size, 0, none⟩), .int .u8 126] u1 (Pushed _ U.heap.size L wide .out 126 u1) := push_calls _ U.heap.size L wide .out 126 u1 pr0 (Nat.zero_le _)
  unfold Pushed at PC
  rw [show tells wide .out 126 = (0, []) from rfl, next_flag] at PC
  clear pr0
  go_wp2_with fail
  refine PC.mono ?_
  rintro e u2 ⟨B9, d9, rfl, own9, pr1, on9⟩
  clear PC own9
  have hFn : ∀ j, more (fun k => k = U.heap.size) u1 u2 j → U.heap.size ≤ j := more_ge (fun j hj => by rw [hj]; exact Nat.le_refl _) bn.size
  have belU := bn.trans (on9.below (fun j hj => by rw [hj]; exact Nat.le_refl _) bn.size)
  clear on9 bn
  have hst := Lib.hid (show ERel U L wide bs N false S (.int .i64 0) u2 from ⟨0, _, _, Nat.zero_le _, rfl, pr1, hFn, belU, Nat.zero_le _, HS.out, fun j hj => by omega⟩)
  clear hFn
  go_wp2
  go_loopw [12] (ERel U L wide bs N false S) (fun i _ => N - (intOf i).toNat)
  case atStart => exact hst.out
  case round =>
    clear pr1 belU hst
    obtain ⟨k, s, F, hk, rfl, pr, hF, bel, hacc, ha, hok⟩ := hrel
    have bF := bU.trans (bel.mono bU.size)
    by_cases hlt : k < N
    · have hlt' : k < bs.length := by rw [hN.out]; exact hlt
      obtain ⟨b, off, rfl, hbb, hc⟩ := (HR.out.below bel).at_ hlt'
      have hg : bs.getD k 0 = bs[k] := by rw [List.getD_eq_getElem?_getD, List.getElem?_eq_getElem hlt']; rfl
      have ha' := Lib.hid (after_at hlt' ha)
      clear ha
      have HG := Lib.hid hg
      rw [hg] at hc
      clear hg
      generalize bs[k] = x at hc ha' HG
      unfold bv at hc
      by_cases h1 : x = 126
      · have f1 := is_flag h1
        clear h1 pr
        go_wp2
        go_ret
        exact ⟨rfl, bF⟩
      · have f1 := no_flag h1
        by_cases h2 : x = 125
        · clear pr
          have f2 := is_esc h2
          clear h1 h2
          go_wp2
          go_ret
          exact ⟨rfl, bF⟩
        · have f2 := no_esc h2
          have hokk := Lib.hid (show ok false bs k from ⟨by rw [HG.out]; exact h1, fun h => absurd (by rw [← HG.out]; exact h) h2⟩)
          clear h2
          have hne := h1
          have PC := push_calls F U.heap.size L wide s x wr pr (by omega)
          have hacc' := acc_le (L := L) s x hacc
          unfold Pushed at PC
          rw [tells_plain wide s h1] at PC
          unfold bv at PC
          clear pr
          have HE0 := Lib.hid (show ∀ w1, PR w1 (more F wr w1) U.heap.size L wide (next L s x) → Only F wr w1 → ERel U L wide bs N false S (.int .i64 ((k : Int) + 1)) w1 from
            fun w1 pr1 on1 => ⟨k + 1, _, _, by omega, by rw [Int.natCast_add]; rfl, pr1, more_ge hF bel.size, bel.trans (on1.below hF bel.size), hacc', ha'.out, fun j hj => by
              rcases Nat.lt_or_ge j k with h | h
              · exact hok j h
              · have : j = k := by omega
                subst this
                exact hokk.out⟩)
          clear h1 hne hok hokk ha'
          go_wp2_with fail
          refine PC.mono ?_
          rintro e w1 ⟨B1, d1, rfl, own1, pr1, on1⟩
          clear PC
          have HE := Lib.hid (HE0.out w1 pr1 on1)
          clear HE0 own1 pr1 on1
          go_wp2
          go_roundw
          case rel => exact HE.out
          case measure => simp [intOf]; omega
    · have hse := after_end (by rw [hN.out]; omega) ha
      have hfin := HEND.out (fun j hj => hok j (by rw [hN.out] at hj; omega))
      rw [HS.out] at hfin
      rw [← hse] at hfin
      have PC : Calls Try.prog 13 #[.pointer (some ⟨U.heap.size, 0, none⟩), .int .u8 126] wr (Pushed F U.heap.size L wide s 126 wr) := push_calls F U.heap.size L wide s 126 wr pr (by omega)
      unfold Pushed at PC
      rw [tells_flag, hfin] at PC
      clear pr hok ha hse hfin
      go_wp2_with fail
      refine PC.mono ?_
      rintro e w1 ⟨B1, d1, rfl, own1, pr1, on1⟩
      clear PC
      have bel1 := bF.trans ((on1.below hF bel.size).mono bU.size)
      clear own1 pr1 on1
      have hzl' := hzl.out
      rw [hzl']
      have hpos : decide (0 < m) = true := decide_eq_true (by omega)
      go_wp2
      go_ret
      exact ⟨rfl, bel1⟩

set_option maxHeartbeats 2000000 in
theorem FrameEnds_0 (m : Nat) (wide : Bool) (w : World) (hm1 : 1 ≤ m) (hm2 : m ≤ 50) :
    Calls Try.prog 7 #[.int .i64 0, .int .i64 (m : Int), .bool wide] w fun e w' => e = .returned (.bool true) ∧ Below w.heap.size w w' := by
  have hs := sumN_le wide
  have hmk := run_made m (by omega)
  have hL50 : limit 50 wide = 50 + sumN wide := rfl
  have HEND := Lib.hid (end_0 m wide (limit 50 wide) (by omega))
  have hNl := Lib.hid (show ((zsum m wide).take (sumN wide)).length = sumN wide by rw [List.length_take, zsum_len]; omega)
  have hcl := Lib.hid (zsum_len m wide)
  go_enter Try.func7, Try.ntmps7
  go_wp2_with fail
  refine (alive_calls w).mono ?_
  rintro e W ⟨rfl, hb⟩
  have sc := zsum_calls m wide W hm2
  go_wp2_with fail
  refine sc.mono ?_
  rintro e U ⟨B, d, rfl, own, bel0⟩
  clear sc hmk
  have bU := hb.trans (bel0.mono hb.size)
  have HR := Lib.hid (own.rd.front (sumN wide))
  have hcap := own.cap.1
  rw [hcl.out] at hcap
  have hcm := own.cap.2
  unfold maxLen at hcm
  obtain ⟨L, hLim⟩ : ∃ L, limit 50 wide = L := ⟨_, rfl⟩
  have hL : L ≤ 54 := by omega
  obtain ⟨N, hNe⟩ : ∃ N, sumN wide = N := ⟨_, rfl⟩
  rw [hLim] at HEND
  rw [hNe] at HEND hNl HR hcap hs
  rw [hNe]
  have hN := hNl
  generalize (zsum m wide).take N = bs at *
  have hN60 : N ≤ 60 := by omega
  have i1 : (m : Int) + (N : Int) - (m : Int) = (N : Int) := by omega
  have i2 : (0 : Int) ≤ (N : Int) := by omega
  have i3 : (N : Int) ≤ (d : Int) := by omega
  clear own hNl hNe hL50 bel0 hcl
  have nw := new_calls 50 wide U
  rw [hLim] at nw
  have pr0 := PR.new U L wide
  have bn := (Below.refl U.heap.size U).alloc (Nat.le_refl _) (.cells (pcells L wide 0 none 0 0) 45)
  obtain ⟨S, hS⟩ : ∃ S, after L (.rd false []) bs = S := ⟨_, rfl⟩
  have HS := Lib.hid hS
  clear hS hLim
  have P0 := Lib.hid pr0
  clear pr0
  go_wp2_with fail
  refine nw.mono ?_
  rintro e w1 ⟨rfl, rfl⟩
  clear nw
  have pr0 := P0.out
  clear P0
  generalize U.alloc (.cells (pcells L wide 0 none 0 0) 45) = u1 at *
  have PC : Calls Try.prog 13 #[.pointer (some ⟨U.heap.size, 0, none⟩), .int .u8 126] u1 (Pushed _ U.heap.size L wide .out 126 u1) := push_calls _ U.heap.size L wide .out 126 u1 pr0 (Nat.zero_le _)
  unfold Pushed at PC
  rw [show tells wide .out 126 = (0, []) from rfl, next_flag] at PC
  clear pr0
  go_wp2_with fail
  refine PC.mono ?_
  rintro e u2 ⟨B9, d9, rfl, own9, pr1, on9⟩
  clear PC own9
  have hFn : ∀ j, more (fun k => k = U.heap.size) u1 u2 j → U.heap.size ≤ j := more_ge (fun j hj => by rw [hj]; exact Nat.le_refl _) bn.size
  have belU := bn.trans (on9.below (fun j hj => by rw [hj]; exact Nat.le_refl _) bn.size)
  clear on9 bn
  have hst := Lib.hid (show ERel U L wide bs N false S (.int .i64 0) u2 from ⟨0, _, _, Nat.zero_le _, rfl, pr1, hFn, belU, Nat.zero_le _, HS.out, fun j hj => by omega⟩)
  clear hFn
  go_wp2
  go_loopw [12] (ERel U L wide bs N false S) (fun i _ => N - (intOf i).toNat)
  case atStart => exact hst.out
  case round =>
    clear pr1 belU hst
    obtain ⟨k, s, F, hk, rfl, pr, hF, bel, hacc, ha, hok⟩ := hrel
    have bF := bU.trans (bel.mono bU.size)
    by_cases hlt : k < N
    · have hlt' : k < bs.length := by rw [hN.out]; exact hlt
      obtain ⟨b, off, rfl, hbb, hc⟩ := (HR.out.below bel).at_ hlt'
      have hg : bs.getD k 0 = bs[k] := by rw [List.getD_eq_getElem?_getD, List.getElem?_eq_getElem hlt']; rfl
      have ha' := Lib.hid (after_at hlt' ha)
      clear ha
      have HG := Lib.hid hg
      rw [hg] at hc
      clear hg
      generalize bs[k] = x at hc ha' HG
      unfold bv at hc
      by_cases h1 : x = 126
      · have f1 := is_flag h1
        clear h1 pr
        go_wp2
        go_ret
        exact ⟨rfl, bF⟩
      · have f1 := no_flag h1
        by_cases h2 : x = 125
        · clear pr
          have f2 := is_esc h2
          clear h1 h2
          go_wp2
          go_ret
          exact ⟨rfl, bF⟩
        · have f2 := no_esc h2
          have hokk := Lib.hid (show ok false bs k from ⟨by rw [HG.out]; exact h1, fun h => absurd (by rw [← HG.out]; exact h) h2⟩)
          clear h2
          have hne := h1
          have PC := push_calls F U.heap.size L wide s x wr pr (by omega)
          have hacc' := acc_le (L := L) s x hacc
          unfold Pushed at PC
          rw [tells_plain wide s h1] at PC
          unfold bv at PC
          clear pr
          have HE0 := Lib.hid (show ∀ w1, PR w1 (more F wr w1) U.heap.size L wide (next L s x) → Only F wr w1 → ERel U L wide bs N false S (.int .i64 ((k : Int) + 1)) w1 from
            fun w1 pr1 on1 => ⟨k + 1, _, _, by omega, by rw [Int.natCast_add]; rfl, pr1, more_ge hF bel.size, bel.trans (on1.below hF bel.size), hacc', ha'.out, fun j hj => by
              rcases Nat.lt_or_ge j k with h | h
              · exact hok j h
              · have : j = k := by omega
                subst this
                exact hokk.out⟩)
          clear h1 hne hok hokk ha'
          go_wp2_with fail
          refine PC.mono ?_
          rintro e w1 ⟨B1, d1, rfl, own1, pr1, on1⟩
          clear PC
          have HE := Lib.hid (HE0.out w1 pr1 on1)
          clear HE0 own1 pr1 on1
          go_wp2
          go_roundw
          case rel => exact HE.out
          case measure => simp [intOf]; omega
    · have hse := after_end (by rw [hN.out]; omega) ha
      have hfin := HEND.out (fun j hj => hok j (by rw [hN.out] at hj; omega))
      rw [HS.out] at hfin
      rw [← hse] at hfin
      have PC : Calls Try.prog 13 #[.pointer (some ⟨U.heap.size, 0, none⟩), .int .u8 126] wr (Pushed F U.heap.size L wide s 126 wr) := push_calls F U.heap.size L wide s 126 wr pr (by omega)
      unfold Pushed at PC
      rw [tells_flag, hfin] at PC
      clear pr hok ha hse hfin
      go_wp2_with fail
      refine PC.mono ?_
      rintro e w1 ⟨B1, d1, rfl, own1, pr1, on1⟩
      clear PC
      have bel1 := bF.trans ((on1.below hF bel.size).mono bU.size)
      clear own1 pr1 on1
      go_wp2
      go_ret
      exact ⟨rfl, bel1⟩

set_option maxHeartbeats 2000000 in
theorem FrameEnds_1 (m : Nat) (wide : Bool) (w : World) (hm1 : 1 ≤ m) (hm2 : m ≤ 50) :
    Calls Try.prog 7 #[.int .i64 1, .int .i64 (m : Int), .bool wide] w fun e w' => e = .returned (.bool true) ∧ Below w.heap.size w w' := by
  have hs := sumN_le wide
  have hmk := run_made m (by omega)
  have hL50 : limit 50 wide = 50 + sumN wide := rfl
  have HEND := Lib.hid (end_1 m wide)
  have hcl := Lib.hid (zsum_len m wide)
  have hNl := Lib.hid (show (zsum m wide ++ [1]).length = m + sumN wide + 1 by rw [List.length_append, zsum_len]; rfl)
  go_enter Try.func7, Try.ntmps7
  go_wp2_with fail
  refine (alive_calls w).mono ?_
  rintro e W ⟨rfl, hb⟩
  have sc := zsum_calls m wide W hm2
  go_wp2_with fail
  refine sc.mono ?_
  rintro e V ⟨B, d, rfl, own, bel0⟩
  clear sc hmk
  have bV := hb.trans (bel0.mono hb.size)
  obtain ⟨A', c', U, run, own1, bel1⟩ := app_new V W.heap.size B d (zsum m wide) [1] own bel0.size (by rw [hcl.out]; simp; omega)
  have bU := hb.trans ((bel0.trans bel1).mono hb.size)
  have HR := Lib.hid own1.rd
  have hLm : limit (m : Int) wide = m + sumN wide := by unfold limit most; omega
  obtain ⟨N, hNe⟩ : ∃ N, m + sumN wide + 1 = N := ⟨_, rfl⟩
  obtain ⟨N0, hN0⟩ : ∃ N0, m + sumN wide = N0 := ⟨_, rfl⟩
  rw [hNe] at hNl
  have hN := hNl
  rw [hN.out, hcl.out, hN0] at run
  rw [hN0]
  rw [hN0] at hLm HEND
  obtain ⟨L, hLim⟩ : ∃ L, limit (m : Int) wide = L := ⟨_, rfl⟩
  have hL : L ≤ 54 := by omega
  rw [show N0 = L by rw [← hLm, hLim]] at HEND
  have hN60 : N ≤ 60 := by omega
  generalize zsum m wide ++ [1] = bs at *
  clear own own1 bel0 bel1 hNl hNe hN0 hL50 hLm hcl
  go_wp2_with (at_builtin; refine Lib.wpList_append_run _ rfl _ _ _ _ rfl _ _ rfl rfl _ _ (run _) ?_)
  clear run
  have nw := new_calls (m : Int) wide U
  rw [hLim] at nw
  have pr0 := PR.new U L wide
  have bn := (Below.refl U.heap.size U).alloc (Nat.le_refl _) (.cells (pcells L wide 0 none 0 0) 45)
  obtain ⟨S, hS⟩ : ∃ S, after L (.rd false []) bs = S := ⟨_, rfl⟩
  have HS := Lib.hid hS
  clear hS hLim
  have P0 := Lib.hid pr0
  clear pr0
  go_wp2_with fail
  refine nw.mono ?_
  rintro e w1 ⟨rfl, rfl⟩
  clear nw
  have pr0 := P0.out
  clear P0
  generalize U.alloc (.cells (pcells L wide 0 none 0 0) 45) = u1 at *
  have PC : Calls Try.prog 13 #[.pointer (some ⟨U.heap.size, 0, none⟩), .int .u8 126] u1 (Pushed _ U.heap.size L wide .out 126 u1) := push_calls _ U.heap.size L wide .out 126 u1 pr0 (Nat.zero_le _)
  unfold Pushed at PC
  rw [show tells wide .out 126 = (0, []) from rfl, next_flag] at PC
  clear pr0
  go_wp2_with fail
  refine PC.mono ?_
  rintro e u2 ⟨B9, d9, rfl, own9, pr1, on9⟩
  clear PC own9
  have hFn : ∀ j, more (fun k => k = U.heap.size) u1 u2 j → U.heap.size ≤ j := more_ge (fun j hj => by rw [hj]; exact Nat.le_refl _) bn.size
  have belU := bn.trans (on9.below (fun j hj => by rw [hj]; exact Nat.le_refl _) bn.size)
  clear on9 bn
  have hst := Lib.hid (show ERel U L wide bs N false S (.int .i64 0) u2 from ⟨0, _, _, Nat.zero_le _, rfl, pr1, hFn, belU, Nat.zero_le _, HS.out, fun j hj => by omega⟩)
  clear hFn
  go_wp2
  go_loopw [12] (ERel U L wide bs N false S) (fun i _ => N - (intOf i).toNat)
  case atStart => exact hst.out
  case round =>
    clear pr1 belU hst
    obtain ⟨k, s, F, hk, rfl, pr, hF, bel, hacc, ha, hok⟩ := hrel
    have bF := bU.trans (bel.mono bU.size)
    by_cases hlt : k < N
    · have hlt' : k < bs.length := by rw [hN.out]; exact hlt
      obtain ⟨b, off, rfl, hbb, hc⟩ := (HR.out.below bel).at_ hlt'
      have hg : bs.getD k 0 = bs[k] := by rw [List.getD_eq_getElem?_getD, List.getElem?_eq_getElem hlt']; rfl
      have ha' := Lib.hid (after_at hlt' ha)
      clear ha
      have HG := Lib.hid hg
      rw [hg] at hc
      clear hg
      generalize bs[k] = x at hc ha' HG
      unfold bv at hc
      by_cases h1 : x = 126
      · have f1 := is_flag h1
        clear h1 pr
        go_wp2
        go_ret
        exact ⟨rfl, bF⟩
      · have f1 := no_flag h1
        by_cases h2 : x = 125
        · clear pr
          have f2 := is_esc h2
          clear h1 h2
          go_wp2
          go_ret
          exact ⟨rfl, bF⟩
        · have f2 := no_esc h2
          have hokk := Lib.hid (show ok false bs k from ⟨by rw [HG.out]; exact h1, fun h => absurd (by rw [← HG.out]; exact h) h2⟩)
          clear h2
          have hne := h1
          have PC := push_calls F U.heap.size L wide s x wr pr (by omega)
          have hacc' := acc_le (L := L) s x hacc
          unfold Pushed at PC
          rw [tells_plain wide s h1] at PC
          unfold bv at PC
          clear pr
          have HE0 := Lib.hid (show ∀ w1, PR w1 (more F wr w1) U.heap.size L wide (next L s x) → Only F wr w1 → ERel U L wide bs N false S (.int .i64 ((k : Int) + 1)) w1 from
            fun w1 pr1 on1 => ⟨k + 1, _, _, by omega, by rw [Int.natCast_add]; rfl, pr1, more_ge hF bel.size, bel.trans (on1.below hF bel.size), hacc', ha'.out, fun j hj => by
              rcases Nat.lt_or_ge j k with h | h
              · exact hok j h
              · have : j = k := by omega
                subst this
                exact hokk.out⟩)
          clear h1 hne hok hokk ha'
          go_wp2_with fail
          refine PC.mono ?_
          rintro e w1 ⟨B1, d1, rfl, own1, pr1, on1⟩
          clear PC
          have HE := Lib.hid (HE0.out w1 pr1 on1)
          clear HE0 own1 pr1 on1
          go_wp2
          go_roundw
          case rel => exact HE.out
          case measure => simp [intOf]; omega
    · have hse := after_end (by rw [hN.out]; omega) ha
      have hfin := HEND.out (fun j hj => hok j (by rw [hN.out] at hj; omega))
      rw [HS.out] at hfin
      rw [← hse] at hfin
      have PC : Calls Try.prog 13 #[.pointer (some ⟨U.heap.size, 0, none⟩), .int .u8 126] wr (Pushed F U.heap.size L wide s 126 wr) := push_calls F U.heap.size L wide s 126 wr pr (by omega)
      unfold Pushed at PC
      rw [tells_flag, hfin] at PC
      clear pr hok ha hse hfin
      go_wp2_with fail
      refine PC.mono ?_
      rintro e w1 ⟨B1, d1, rfl, own1, pr1, on1⟩
      clear PC
      have bel1 := bF.trans ((on1.below hF bel.size).mono bU.size)
      clear own1 pr1 on1
      go_wp2
      go_ret
      exact ⟨rfl, bel1⟩

set_option maxHeartbeats 2000000 in
theorem FrameEnds_2 (m : Nat) (wide : Bool) (w : World) (hm1 : 1 ≤ m) (hm2 : m ≤ 50) :
    Calls Try.prog 7 #[.int .i64 2, .int .i64 (m : Int), .bool wide] w fun e w' => e = .returned (.bool true) ∧ Below w.heap.size w w' := by
  have hs := sumN_le wide
  have hmk := run_made m (by omega)
  have hL50 : limit 50 wide = 50 + sumN wide := rfl
  have HEND := Lib.hid (end_2 m wide (limit 50 wide) (by rw [hL50]; omega))
  have hcl := Lib.hid (zsum_len m wide)
  have hNl := Lib.hid (show (zsum m wide ++ [125]).length = m + sumN wide + 1 by rw [List.length_append, zsum_len]; rfl)
  go_enter Try.func7, Try.ntmps7
  go_wp2_with fail
  refine (alive_calls w).mono ?_
  rintro e W ⟨rfl, hb⟩
  have sc := zsum_calls m wide W hm2
  go_wp2_with fail
  refine sc.mono ?_
  rintro e V ⟨B, d, rfl, own, bel0⟩
  clear sc hmk
  have bV := hb.trans (bel0.mono hb.size)
  obtain ⟨A', c', U, run, own1, bel1⟩ := app_new V W.heap.size B d (zsum m wide) [125] own bel0.size (by rw [hcl.out]; simp; omega)
  have bU := hb.trans ((bel0.trans bel1).mono hb.size)
  have HR := Lib.hid own1.rd
  have hLm : limit (m : Int) wide = m + sumN wide := by unfold limit most; omega
  obtain ⟨N, hNe⟩ : ∃ N, m + sumN wide + 1 = N := ⟨_, rfl⟩
  obtain ⟨N0, hN0⟩ : ∃ N0, m + sumN wide = N0 := ⟨_, rfl⟩
  rw [hNe] at hNl
  have hN := hNl
  rw [hN.out, hcl.out, hN0] at run
  rw [hN0]
  rw [hN0] at hLm
  obtain ⟨L, hLim⟩ : ∃ L, limit 50 wide = L := ⟨_, rfl⟩
  have hL : L ≤ 54 := by omega
  rw [hLim] at HEND
  have hN60 : N ≤ 60 := by omega
  generalize zsum m wide ++ [125] = bs at *
  clear own own1 bel0 bel1 hNl hNe hN0 hL50 hLm hcl
  go_wp2_with (at_builtin; refine Lib.wpList_append_run _ rfl _ _ _ _ rfl _ _ rfl rfl _ _ (run _) ?_)
  clear run
  have nw := new_calls 50 wide U
  rw [hLim] at nw
  have pr0 := PR.new U L wide
  have bn := (Below.refl U.heap.size U).alloc (Nat.le_refl _) (.cells (pcells L wide 0 none 0 0) 45)
  obtain ⟨S, hS⟩ : ∃ S, after L (.rd false []) bs = S := ⟨_, rfl⟩
  have HS := Lib.hid hS
  clear hS hLim
  have P0 := Lib.hid pr0
  clear pr0
  go_wp2_with fail
  refine nw.mono ?_
  rintro e w1 ⟨rfl, rfl⟩
  clear nw
  have pr0 := P0.out
  clear P0
  generalize U.alloc (.cells (pcells L wide 0 none 0 0) 45) = u1 at *
  have PC : Calls Try.prog 13 #[.pointer (some ⟨U.heap.size, 0, none⟩), .int .u8 126] u1 (Pushed _ U.heap.size L wide .out 126 u1) := push_calls _ U.heap.size L wide .out 126 u1 pr0 (Nat.zero_le _)
  unfold Pushed at PC
  rw [show tells wide .out 126 = (0, []) from rfl, next_flag] at PC
  clear pr0
  go_wp2_with fail
  refine PC.mono ?_
  rintro e u2 ⟨B9, d9, rfl, own9, pr1, on9⟩
  clear PC own9
  have hFn : ∀ j, more (fun k => k = U.heap.size) u1 u2 j → U.heap.size ≤ j := more_ge (fun j hj => by rw [hj]; exact Nat.le_refl _) bn.size
  have belU := bn.trans (on9.below (fun j hj => by rw [hj]; exact Nat.le_refl _) bn.size)
  clear on9 bn
  have hst := Lib.hid (show ERel U L wide bs N true S (.int .i64 0) u2 from ⟨0, _, _, Nat.zero_le _, rfl, pr1, hFn, belU, Nat.zero_le _, HS.out, fun j hj => by omega⟩)
  clear hFn
  go_wp2
  go_loopw [12] (ERel U L wide bs N true S) (fun i _ => N - (intOf i).toNat)
  case atStart => exact hst.out
  case round =>
    clear pr1 belU hst
    obtain ⟨k, s, F, hk, rfl, pr, hF, bel, hacc, ha, hok⟩ := hrel
    have bF := bU.trans (bel.mono bU.size)
    by_cases hlt : k < N
    · have hlt' : k < bs.length := by rw [hN.out]; exact hlt
      obtain ⟨b, off, rfl, hbb, hc⟩ := (HR.out.below bel).at_ hlt'
      have hg : bs.getD k 0 = bs[k] := by rw [List.getD_eq_getElem?_getD, List.getElem?_eq_getElem hlt']; rfl
      have ha' := Lib.hid (after_at hlt' ha)
      clear ha
      have HG := Lib.hid hg
      rw [hg] at hc
      clear hg
      generalize bs[k] = x at hc ha' HG
      unfold bv at hc
      by_cases h1 : x = 126
      · have f1 := is_flag h1
        clear h1 pr
        go_wp2
        go_ret
        exact ⟨rfl, bF⟩
      · have f1 := no_flag h1
        by_cases h2 : x = 125
        · have f2 := is_esc h2
          by_cases h3 : k + 1 < N
          · have h4 : (k : Int) < (N : Int) - 1 := by omega
            clear h1 h2 pr
            go_wp2
            go_ret
            exact ⟨rfl, bF⟩
          · have h4 : ¬ (k : Int) < (N : Int) - 1 := by omega
            have hokk := Lib.hid (show ok true bs k from ⟨by rw [HG.out]; exact h1, fun _ => ⟨rfl, by rw [hN.out]; omega⟩⟩)
            clear h2
            have hne := h1
            have PC := push_calls F U.heap.size L wide s x wr pr (by omega)
            have hacc' := acc_le (L := L) s x hacc
            unfold Pushed at PC
            rw [tells_plain wide s h1] at PC
            unfold bv at PC
            clear pr
            have HE0 := Lib.hid (show ∀ w1, PR w1 (more F wr w1) U.heap.size L wide (next L s x) → Only F wr w1 → ERel U L wide bs N true S (.int .i64 ((k : Int) + 1)) w1 from
              fun w1 pr1 on1 => ⟨k + 1, _, _, by omega, by rw [Int.natCast_add]; rfl, pr1, more_ge hF bel.size, bel.trans (on1.below hF bel.size), hacc', ha'.out, fun j hj => by
                rcases Nat.lt_or_ge j k with h | h
                · exact hok j h
                · have : j = k := by omega
                  subst this
                  exact hokk.out⟩)
            clear h1 hne hok hokk ha'
            go_wp2_with fail
            refine PC.mono ?_
            rintro e w1 ⟨B1, d1, rfl, own1, pr1, on1⟩
            clear PC
            have HE := Lib.hid (HE0.out w1 pr1 on1)
            clear HE0 own1 pr1 on1
            go_wp2
            go_roundw
            case rel => exact HE.out
            case measure => simp [intOf]; omega
        · have f2 := no_esc h2
          have hokk := Lib.hid (show ok true bs k from ⟨by rw [HG.out]; exact h1, fun h => absurd (by rw [← HG.out]; exact h) h2⟩)
          clear h2
          have hne := h1
          have PC := push_calls F U.heap.size L wide s x wr pr (by omega)
          have hacc' := acc_le (L := L) s x hacc
          unfold Pushed at PC
          rw [tells_plain wide s h1] at PC
          unfold bv at PC
          clear pr
          have HE0 := Lib.hid (show ∀ w1, PR w1 (more F wr w1) U.heap.size L wide (next L s x) → Only F wr w1 → ERel U L wide bs N true S (.int .i64 ((k : Int) + 1)) w1 from
            fun w1 pr1 on1 => ⟨k + 1, _, _, by omega, by rw [Int.natCast_add]; rfl, pr1, more_ge hF bel.size, bel.trans (on1.below hF bel.size), hacc', ha'.out, fun j hj => by
              rcases Nat.lt_or_ge j k with h | h
              · exact hok j h
              · have : j = k := by omega
                subst this
                exact hokk.out⟩)
          clear h1 hne hok hokk ha'
          go_wp2_with fail
          refine PC.mono ?_
          rintro e w1 ⟨B1, d1, rfl, own1, pr1, on1⟩
          clear PC
          have HE := Lib.hid (HE0.out w1 pr1 on1)
          clear HE0 own1 pr1 on1
          go_wp2
          go_roundw
          case rel => exact HE.out
          case measure => simp [intOf]; omega
    · have hse := after_end (by rw [hN.out]; omega) ha
      have hfin := HEND.out (fun j hj => hok j (by rw [hN.out] at hj; omega))
      rw [HS.out] at hfin
      rw [← hse] at hfin
      have PC : Calls Try.prog 13 #[.pointer (some ⟨U.heap.size, 0, none⟩), .int .u8 126] wr (Pushed F U.heap.size L wide s 126 wr) := push_calls F U.heap.size L wide s 126 wr pr (by omega)
      unfold Pushed at PC
      rw [tells_flag, hfin] at PC
      clear pr hok ha hse hfin
      go_wp2_with fail
      refine PC.mono ?_
      rintro e w1 ⟨B1, d1, rfl, own1, pr1, on1⟩
      clear PC
      have bel1 := bF.trans ((on1.below hF bel.size).mono bU.size)
      clear own1 pr1 on1
      go_wp2
      go_ret
      exact ⟨rfl, bel1⟩

set_option maxHeartbeats 2000000 in
theorem FrameEnds_3 (m : Nat) (wide : Bool) (w : World) (hm1 : 1 ≤ m) (hm2 : m ≤ 50) :
    Calls Try.prog 7 #[.int .i64 3, .int .i64 (m : Int), .bool wide] w fun e w' => e = .returned (.bool true) ∧ Below w.heap.size w w' := by
  have hs := sumN_le wide
  have hmk := run_made m (by omega)
  have hL50 : limit 50 wide = 50 + sumN wide := rfl
  have HEND := Lib.hid (end_3 m wide (limit 50 wide) (by omega) hm1)
  have hcl := Lib.hid (zsum_len m wide)
  have hNl := Lib.hid (show ((zsum m wide).set 0 1).length = m + sumN wide by rw [List.length_set, zsum_len])
  go_enter Try.func7, Try.ntmps7
  go_wp2_with fail
  refine (alive_calls w).mono ?_
  rintro e W ⟨rfl, hb⟩
  have sc := zsum_calls m wide W hm2
  go_wp2_with fail
  refine sc.mono ?_
  rintro e V ⟨B, d, rfl, own, bel0⟩
  clear sc hmk
  have bV := hb.trans (bel0.mono hb.size)
  obtain ⟨g, rfl, hg, hcell, hfrz, hset⟩ := own.place (j := 0) (by rw [hcl.out]; omega)
  have own1 := hset 1
  have hgV : g < V.heap.size := World.block_lt_of_cell? V _ hcell
  have HR := Lib.hid own1.rd
  have bU := bV.setCell (p := ⟨g, 0, none⟩) (Nat.le_trans hb.size hg) (bv 1)
  have h1v : bv 1 = .int .u8 1 := rfl
  rw [h1v] at bU HR
  have HR := Lib.hid HR.out
  obtain ⟨U, hU⟩ : ∃ U, V.setCell ⟨g, 0, none⟩ (.int .u8 1) = U := ⟨_, rfl⟩
  rw [hU] at bU HR
  have HU := Lib.hid hU
  obtain ⟨N, hNe⟩ : ∃ N, m + sumN wide = N := ⟨_, rfl⟩
  obtain ⟨L, hLim⟩ : ∃ L, limit 50 wide = L := ⟨_, rfl⟩
  have hL : L ≤ 54 := by omega
  rw [hLim] at HEND
  rw [hNe] at hNl
  rw [hNe]
  have hN := hNl
  have hN60 : N ≤ 60 := by omega
  have hN1 : (0 : Int) < (N : Int) := by omega
  unfold bv at hcell
  generalize (zsum m wide).set 0 1 = bs at *
  clear own own1 hset bel0 hNl hNe hL50 hcl hU h1v
  go_wp2_with fail
  rw [HU.out]
  clear HU hcell hfrz hg hgV
  generalize (some ⟨g, 0, none⟩ : Option Addr) = B at *
  have nw := new_calls 50 wide U
  rw [hLim] at nw
  have pr0 := PR.new U L wide
  have bn := (Below.refl U.heap.size U).alloc (Nat.le_refl _) (.cells (pcells L wide 0 none 0 0) 45)
  obtain ⟨S, hS⟩ : ∃ S, after L (.rd false []) bs = S := ⟨_, rfl⟩
  have HS := Lib.hid hS
  clear hS hLim
  have P0 := Lib.hid pr0
  clear pr0
  go_wp2_with fail
  refine nw.mono ?_
  rintro e w1 ⟨rfl, rfl⟩
  clear nw
  have pr0 := P0.out
  clear P0
  generalize U.alloc (.cells (pcells L wide 0 none 0 0) 45) = u1 at *
  have PC : Calls Try.prog 13 #[.pointer (some ⟨U.heap.size, 0, none⟩), .int .u8 126] u1 (Pushed _ U.heap.size L wide .out 126 u1) := push_calls _ U.heap.size L wide .out 126 u1 pr0 (Nat.zero_le _)
  unfold Pushed at PC
  rw [show tells wide .out 126 = (0, []) from rfl, next_flag] at PC
  clear pr0
  go_wp2_with fail
  refine PC.mono ?_
  rintro e u2 ⟨B9, d9, rfl, own9, pr1, on9⟩
  clear PC own9
  have hFn : ∀ j, more (fun k => k = U.heap.size) u1 u2 j → U.heap.size ≤ j := more_ge (fun j hj => by rw [hj]; exact Nat.le_refl _) bn.size
  have belU := bn.trans (on9.below (fun j hj => by rw [hj]; exact Nat.le_refl _) bn.size)
  clear on9 bn
  have hst := Lib.hid (show ERel U L wide bs N false S (.int .i64 0) u2 from ⟨0, _, _, Nat.zero_le _, rfl, pr1, hFn, belU, Nat.zero_le _, HS.out, fun j hj => by omega⟩)
  clear hFn
  go_wp2
  go_loopw [12] (ERel U L wide bs N false S) (fun i _ => N - (intOf i).toNat)
  case atStart => exact hst.out
  case round =>
    clear pr1 belU hst
    obtain ⟨k, s, F, hk, rfl, pr, hF, bel, hacc, ha, hok⟩ := hrel
    have bF := bU.trans (bel.mono bU.size)
    by_cases hlt : k < N
    · have hlt' : k < bs.length := by rw [hN.out]; exact hlt
      obtain ⟨b, off, rfl, hbb, hc⟩ := (HR.out.below bel).at_ hlt'
      have hg : bs.getD k 0 = bs[k] := by rw [List.getD_eq_getElem?_getD, List.getElem?_eq_getElem hlt']; rfl
      have ha' := Lib.hid (after_at hlt' ha)
      clear ha
      have HG := Lib.hid hg
      rw [hg] at hc
      clear hg
      generalize bs[k] = x at hc ha' HG
      unfold bv at hc
      by_cases h1 : x = 126
      · have f1 := is_flag h1
        clear h1 pr
        go_wp2
        go_ret
        exact ⟨rfl, bF⟩
      · have f1 := no_flag h1
        by_cases h2 : x = 125
        · clear pr
          have f2 := is_esc h2
          clear h1 h2
          go_wp2
          go_ret
          exact ⟨rfl, bF⟩
        · have f2 := no_esc h2
          have hokk := Lib.hid (show ok false bs k from ⟨by rw [HG.out]; exact h1, fun h => absurd (by rw [← HG.out]; exact h) h2⟩)
          clear h2
          have hne := h1
          have PC := push_calls F U.heap.size L wide s x wr pr (by omega)
          have hacc' := acc_le (L := L) s x hacc
          unfold Pushed at PC
          rw [tells_plain wide s h1] at PC
          unfold bv at PC
          clear pr
          have HE0 := Lib.hid (show ∀ w1, PR w1 (more F wr w1) U.heap.size L wide (next L s x) → Only F wr w1 → ERel U L wide bs N false S (.int .i64 ((k : Int) + 1)) w1 from
            fun w1 pr1 on1 => ⟨k + 1, _, _, by omega, by rw [Int.natCast_add]; rfl, pr1, more_ge hF bel.size, bel.trans (on1.below hF bel.size), hacc', ha'.out, fun j hj => by
              rcases Nat.lt_or_ge j k with h | h
              · exact hok j h
              · have : j = k := by omega
                subst this
                exact hokk.out⟩)
          clear h1 hne hok hokk ha'
          go_wp2_with fail
          refine PC.mono ?_
          rintro e w1 ⟨B1, d1, rfl, own1, pr1, on1⟩
          clear PC
          have HE := Lib.hid (HE0.out w1 pr1 on1)
          clear HE0 own1 pr1 on1
          go_wp2
          go_roundw
          case rel => exact HE.out
          case measure => simp [intOf]; omega
    · have hse := after_end (by rw [hN.out]; omega) ha
      have hfin := HEND.out (fun j hj => hok j (by rw [hN.out] at hj; omega))
      rw [HS.out] at hfin
      rw [← hse] at hfin
      have PC : Calls Try.prog 13 #[.pointer (some ⟨U.heap.size, 0, none⟩), .int .u8 126] wr (Pushed F U.heap.size L wide s 126 wr) := push_calls F U.heap.size L wide s 126 wr pr (by omega)
      unfold Pushed at PC
      rw [tells_flag, hfin] at PC
      clear pr hok ha hse hfin
      go_wp2_with fail
      refine PC.mono ?_
      rintro e w1 ⟨B1, d1, rfl, own1, pr1, on1⟩
      clear PC
      have bel1 := bF.trans ((on1.below hF bel.size).mono bU.size)
      clear own1 pr1 on1
      go_wp2
      go_ret
      exact ⟨rfl, bel1⟩

set_option maxHeartbeats 2000000 in
theorem FrameEnds_4 (m : Nat) (wide : Bool) (w : World) (hm1 : 1 ≤ m) (hm2 : m ≤ 50) :
    Calls Try.prog 7 #[.int .i64 4, .int .i64 (m : Int), .bool wide] w fun e w' => e = .returned (.bool true) ∧ Below w.heap.size w w' := by
  have hs := sumN_le wide
  have hmk := run_made m (by omega)
  have HEND := Lib.hid (show (∀ j, j < ([] : List UInt8).length → ok false [] j) → ends wide (after (limit 50 wide) (.rd false []) []) = (0, []) from fun _ => rfl)
  have hL50 : limit 50 wide = 50 + sumN wide := rfl
  go_enter Try.func7, Try.ntmps7
  go_wp2_with fail
  refine (alive_calls w).mono ?_
  rintro e W ⟨rfl, hb⟩
  have sc := zsum_calls m wide W hm2
  go_wp2_with fail
  refine sc.mono ?_
  rintro e U ⟨B, d, rfl, own, bel0⟩
  clear sc hmk
  have bU := hb.trans (bel0.mono hb.size)
  have HR := Lib.hid (Rd.nil U none)
  have hN := Lib.hid (show ([] : List UInt8).length = 0 from rfl)
  obtain ⟨L, hLim⟩ : ∃ L, limit 50 wide = L := ⟨_, rfl⟩
  have hL : L ≤ 54 := by omega
  rw [hLim] at HEND
  clear own bel0 hL50
  have nw := new_calls 50 wide U
  rw [hLim] at nw
  have pr0 := PR.new U L wide
  have bn := (Below.refl U.heap.size U).alloc (Nat.le_refl _) (.cells (pcells L wide 0 none 0 0) 45)
  obtain ⟨S, hS⟩ : ∃ S, after L (.rd false []) [] = S := ⟨_, rfl⟩
  have HS := Lib.hid hS
  clear hS hLim
  have P0 := Lib.hid pr0
  clear pr0
  go_wp2_with fail
  refine nw.mono ?_
  rintro e w1 ⟨rfl, rfl⟩
  clear nw
  have pr0 := P0.out
  clear P0
  generalize U.alloc (.cells (pcells L wide 0 none 0 0) 45) = u1 at *
  have PC : Calls Try.prog 13 #[.pointer (some ⟨U.heap.size, 0, none⟩), .int .u8 126] u1 (Pushed _ U.heap.size L wide .out 126 u1) := push_calls _ U.heap.size L wide .out 126 u1 pr0 (Nat.zero_le _)
  unfold Pushed at PC
  rw [show tells wide .out 126 = (0, []) from rfl, next_flag] at PC
  clear pr0
  go_wp2_with fail
  refine PC.mono ?_
  rintro e u2 ⟨B9, d9, rfl, own9, pr1, on9⟩
  clear PC own9
  have hFn : ∀ j, more (fun k => k = U.heap.size) u1 u2 j → U.heap.size ≤ j := more_ge (fun j hj => by rw [hj]; exact Nat.le_refl _) bn.size
  have belU := bn.trans (on9.below (fun j hj => by rw [hj]; exact Nat.le_refl _) bn.size)
  clear on9 bn
  have hst := Lib.hid (show ERel U L wide [] 0 false S (.int .i64 0) u2 from ⟨0, _, _, Nat.zero_le _, rfl, pr1, hFn, belU, Nat.zero_le _, HS.out, fun j hj => by omega⟩)
  clear hFn
  go_wp2
  go_loopw [12] (ERel U L wide [] 0 false S) (fun i _ => 0 - (intOf i).toNat)
  case atStart => exact hst.out
  case round =>
    clear pr1 belU hst
    obtain ⟨k, s, F, hk, rfl, pr, hF, bel, hacc, ha, hok⟩ := hrel
    have bF := bU.trans (bel.mono bU.size)
    by_cases hlt : k < 0
    · exact absurd hlt (Nat.not_lt_zero _)
    · have hse := after_end (by rw [hN.out]; omega) ha
      have hfin := HEND.out (fun j hj => hok j (by rw [hN.out] at hj; omega))
      rw [HS.out] at hfin
      rw [← hse] at hfin
      have PC : Calls Try.prog 13 #[.pointer (some ⟨U.heap.size, 0, none⟩), .int .u8 126] wr (Pushed F U.heap.size L wide s 126 wr) := push_calls F U.heap.size L wide s 126 wr pr (by omega)
      unfold Pushed at PC
      rw [tells_flag, hfin] at PC
      clear pr hok ha hse hfin
      go_wp2_with fail
      refine PC.mono ?_
      rintro e w1 ⟨B1, d1, rfl, own1, pr1, on1⟩
      clear PC
      have bel1 := bF.trans ((on1.below hF bel.size).mono bU.size)
      clear own1 pr1 on1
      go_wp2
      go_ret
      exact ⟨rfl, bel1⟩

theorem FrameEnds_far (q n : Int) (wide : Bool) (w : World) (h : n < 1 ∨ (¬ n < 1 ∧ 50 < n)) :
    Calls Try.prog 7 #[.int .i64 q, .int .i64 n, .bool wide] w fun e w' => e = .returned (.bool true) ∧ Below w.heap.size w w' := by
  rcases h with h | ⟨h0, h⟩
  all_goals
    go_enter Try.func7, Try.ntmps7
    go_wp2_with fail
    refine (alive_calls w).mono ?_
    rintro e w' ⟨rfl, hb⟩
    go_wp2
    go_ret
    exact ⟨rfl, hb⟩
theorem FrameEnds_walk (a0 a1 : Int) (a2 : Bool) (w0 : (Lit.int .i64 a0).wf = true) (w1 : (Lit.int .i64 a1).wf = true) (w : World) :
    Calls Try.prog 7 #[.int .i64 a0, .int .i64 a1, .bool a2] w fun e w' => e = .returned (.bool true) ∧ Below w.heap.size w w' := by
  by_cases h : n1 a1
  · obtain ⟨m, rfl, hm1, hm2⟩ := n1_nat h
    by_cases h0 : a0 = 0
    · subst h0; exact FrameEnds_0 m a2 w hm1 hm2
    by_cases h1 : a0 = 1
    · subst h1; exact FrameEnds_1 m a2 w hm1 hm2
    by_cases h2 : a0 = 2
    · subst h2; exact FrameEnds_2 m a2 w hm1 hm2
    by_cases h3 : a0 = 3
    · subst h3; exact FrameEnds_3 m a2 w hm1 hm2
    by_cases h4 : a0 = 4
    · subst h4; exact FrameEnds_4 m a2 w hm1 hm2
    exact FrameEnds_5 a0 m a2 w hm1 hm2 (beq_eq_false_iff_ne.mpr h0) (beq_eq_false_iff_ne.mpr h1) (beq_eq_false_iff_ne.mpr h2) (bne_iff_ne.mpr h2) (beq_eq_false_iff_ne.mpr h3) (beq_eq_false_iff_ne.mpr h4)
  · exact FrameEnds_far a0 a1 a2 w (by unfold n1 at h; omega)
end Go.Proofs.Ytnogdlekijpdhaa

/- The law PipeStalls, walked. Condition: the slices read as their octets. -/
import Derived.Test.YtfneegndlkbgpaaPipAlive
namespace Go.Proofs.Ytfneegndlkbgpaa
open Go.RowKit
set_option linter.unusedVariables false

theorem PipeStalls_far1 (A B : Option Addr) (n c m d : Nat) (cut : Bool) (w : World) (hl : 200 < n) (hm : n ≤ 9223372036854775807) :
    Calls Try.prog 5 #[.slice A n c, .slice B m d, .bool cut] w fun e w' => e = .returned (.bool true) ∧ Below w.heap.size w w' := by
  have g1 : (200 : Int) < (n : Int) := by omega
  go_enter Try.func5, Try.ntmps5
  go_wp2_with fail
  refine (alive_calls w).mono ?_
  rintro e w' ⟨rfl, hb⟩
  go_wp2
  go_ret
  exact ⟨rfl, hb⟩
theorem PipeStalls_far2 (A B : Option Addr) (n c m d : Nat) (cut : Bool) (w : World) (hn : n ≤ 200) (hl : 200 < m) (hm : m ≤ 9223372036854775807) :
    Calls Try.prog 5 #[.slice A n c, .slice B m d, .bool cut] w fun e w' => e = .returned (.bool true) ∧ Below w.heap.size w w' := by
  have g1 : ¬ (200 : Int) < (n : Int) := by omega
  have g2 : (200 : Int) < (m : Int) := by omega
  go_enter Try.func5, Try.ntmps5
  go_wp2_with fail
  refine (alive_calls w).mono ?_
  rintro e w' ⟨rfl, hb⟩
  go_wp2
  go_ret
  exact ⟨rfl, hb⟩
theorem newPip_put (R : Nat) (hR : R ≤ 1048576) (a : List UInt8) (h : a.length ≤ R) : (newPip (R : Int)).put a = ⟨R, a, false, false⟩ := by
  have e : newPip (R : Int) = ⟨R, [], false, false⟩ := by
    unfold newPip
    congr 1
    omega
  rw [e]
  simp [Pip.put, Pip.fit, h]
set_option maxHeartbeats 1000000 in
theorem PipeStalls_cut (A B : Option Addr) (c d : Nat) (a b : List UInt8) (w : World) (hra : Rd w A a) (hrb : Rd w B b) (hla : a.length ≤ 200) (hlb : b.length ≤ 200) (hac : a.length ≤ c) (hcm : c ≤ maxLen) (hbd : b.length ≤ d) (hdm : d ≤ maxLen) :
    Calls Try.prog 5 #[.slice A a.length c, .slice B b.length d, .bool true] w fun e w' => e = .returned (.bool true) ∧ Below w.heap.size w w' := by
  have RA := Lib.hid hra
  have RB := Lib.hid hrb
  have e1 := newPip_put 1000 (by decide) a (by omega)
  have g1 : ¬ (200 : Int) < (a.length : Int) := by omega
  have g2 : ¬ (200 : Int) < (b.length : Int) := by omega
  have CA := Lib.hid hac
  have CB := Lib.hid hcm
  have DA := Lib.hid hbd
  have DB := Lib.hid hdm
  have E1 := Lib.hid e1
  have E2 := Lib.hid (show (⟨1000, a, true, false⟩ : Pip).takeL 1000 = a ∧ (⟨1000, a, true, false⟩ : Pip).take 1000 = ⟨1000, [], true, false⟩ by
    unfold Pip.takeL Pip.take
    simp [lim_all (n := 1000) (m := a.length) (by omega)])
  clear hra hrb hac hcm hbd hdm e1
  go_enter Try.func5, Try.ntmps5
  go_wp2_with fail
  refine (alive_calls w).mono ?_
  rintro e W ⟨rfl, hb⟩
  have NW := new_calls 1000 W
  have O1 := Lib.hid (One.fresh hb 1000)
  clear hb
  go_wp2_with fail
  refine NW.mono ?_
  rintro e w1 ⟨rfl, rfl⟩
  clear NW
  generalize W.alloc (.cells (pc (newPip 1000).R none 0 0 false false) 42) = w1 at *
  generalize W.heap.size = p at *
  have P1 := O1.out.put A c a (RA.out.below O1.out.bel) CA.out CB.out
  rw [show (newPip 1000).put a = ⟨1000, a, false, false⟩ from E1.out] at P1
  generalize (newPip 1000).putN a = k1 at P1
  clear O1
  go_wp2_with fail
  refine P1.mono ?_
  rintro e w2 ⟨rfl, h2, _⟩
  clear P1
  generalize more _ _ _ = F2 at h2
  have P2 := h2.fault 1 0 0
  rw [show (⟨1000, a, false, false⟩ : Pip).faultB 1 0 = true from rfl, show (⟨1000, a, false, false⟩ : Pip).fault 1 0 0 = ⟨1000, a, true, false⟩ from rfl] at P2
  clear h2
  go_wp2_with fail
  refine P2.mono ?_
  rintro e w3 ⟨rfl, h3, _⟩
  clear P2
  generalize more _ _ _ = F3 at h3
  have P3 := h3.put B d b (RB.out.below h3.bel) DA.out DB.out
  rw [show (⟨1000, a, true, false⟩ : Pip).putN b = b.length from rfl, show (⟨1000, a, true, false⟩ : Pip).put b = ⟨1000, a, true, false⟩ from rfl] at P3
  clear h3
  go_wp2_with fail
  refine P3.mono ?_
  rintro e w4 ⟨rfl, h4, _⟩
  clear P3
  generalize more _ _ _ = F4 at h4
  have P4 := h4.take 1000
  rw [E2.out.1, E2.out.2] at P4
  have L4 := Lib.hid h4.1.lt
  clear h4
  go_wp2_with fail
  refine P4.mono ?_
  rintro e w5 ⟨⟨A5, c5, rfl, own5⟩, h5, _⟩
  clear P4
  have P5 := h5.fault 0 0 0
  rw [show (⟨1000, [], true, false⟩ : Pip).faultB 0 0 = true from rfl, show (⟨1000, [], true, false⟩ : Pip).fault 0 0 0 = ⟨1000, [], false, false⟩ from rfl] at P5
  have OW5 := Lib.hid own5
  clear h5 own5
  go_wp2_with fail
  refine P5.mono ?_
  rintro e w6 ⟨rfl, h6, o6⟩
  clear P5
  have P6 := h6.take 1000
  rw [show (⟨1000, [], false, false⟩ : Pip).takeL 1000 = [] from rfl, show (⟨1000, [], false, false⟩ : Pip).take 1000 = ⟨1000, [], false, false⟩ from rfl] at P6
  have O6 := Lib.hid o6
  clear h6 o6
  go_wp2_with fail
  refine P6.mono ?_
  rintro e w7 ⟨⟨A7, c7, rfl, own7⟩, h7, o7⟩
  have r7 : Rd w7 A5 a := (OW5.out.only O6.out (fun k hk hF => by have h1 := (OW5.out.blk_ge k hk).1; have := L4.out k hF; omega)).rd.only o7 (fun k hk hF => by
    have h1 := OW5.out.blk_ge k hk
    rcases hF with hF | hF
    · have := L4.out k hF; omega
    · omega)
  have q1 := run_conv w7 A5 c5 a r7
  have q2 := run_conv w7 A c a (RA.out.below h7.bel)
  unfold strV at q1 q2
  have FI := Lib.hid h7.bel
  clear P6 own7 h7 o7 O6 L4 OW5 r7 E1 E2
  go_wp2
  go_ret
  exact ⟨rfl, FI.out⟩
set_option maxHeartbeats 1000000 in
theorem PipeStalls_stall (A B : Option Addr) (c d : Nat) (a b : List UInt8) (w : World) (hra : Rd w A a) (hrb : Rd w B b) (hla : a.length ≤ 200) (hlb : b.length ≤ 200) (hac : a.length ≤ c) (hcm : c ≤ maxLen) (hbd : b.length ≤ d) (hdm : d ≤ maxLen) :
    Calls Try.prog 5 #[.slice A a.length c, .slice B b.length d, .bool false] w fun e w' => e = .returned (.bool true) ∧ Below w.heap.size w w' := by
  have RA := Lib.hid hra
  have RB := Lib.hid hrb
  have e1 := newPip_put 1000 (by decide) a (by omega)
  have g1 : ¬ (200 : Int) < (a.length : Int) := by omega
  have g2 : ¬ (200 : Int) < (b.length : Int) := by omega
  have CA := Lib.hid hac
  have CB := Lib.hid hcm
  have DA := Lib.hid hbd
  have DB := Lib.hid hdm
  have E1 := Lib.hid e1
  have E2 := Lib.hid (show (⟨1000, a, false, true⟩ : Pip).putN b = b.length ∧ (⟨1000, a, false, true⟩ : Pip).put b = ⟨1000, a ++ b, false, true⟩ by
    have hf : (⟨1000, a, false, true⟩ : Pip).fit b = b.length := by unfold Pip.fit; show min b.length (1000 - a.length) = _; omega
    unfold Pip.putN Pip.put
    simp [hf])
  have E3 := Lib.hid (show (⟨1000, a ++ b, false, false⟩ : Pip).takeL 1000 = a ++ b by
    unfold Pip.takeL
    have : lim 1000 (a ++ b).length = (a ++ b).length := lim_all (by simp; omega)
    simp only [cond_false, this, List.take_length])
  clear hra hrb hac hcm hbd hdm e1
  go_enter Try.func5, Try.ntmps5
  go_wp2_with fail
  refine (alive_calls w).mono ?_
  rintro e W ⟨rfl, hb⟩
  have NW := new_calls 1000 W
  have O1 := Lib.hid (One.fresh hb 1000)
  clear hb
  go_wp2_with fail
  refine NW.mono ?_
  rintro e w1 ⟨rfl, rfl⟩
  clear NW
  generalize W.alloc (.cells (pc (newPip 1000).R none 0 0 false false) 42) = w1 at *
  generalize W.heap.size = p at *
  have P1 := O1.out.put A c a (RA.out.below O1.out.bel) CA.out CB.out
  rw [show (newPip 1000).put a = ⟨1000, a, false, false⟩ from E1.out] at P1
  generalize (newPip 1000).putN a = k1 at P1
  clear O1
  go_wp2_with fail
  refine P1.mono ?_
  rintro e w2 ⟨rfl, h2, _⟩
  clear P1
  generalize more _ _ _ = F2 at h2
  have P2 := h2.fault 2 0 0
  rw [show (⟨1000, a, false, false⟩ : Pip).faultB 2 0 = true from rfl, show (⟨1000, a, false, false⟩ : Pip).fault 2 0 0 = ⟨1000, a, false, true⟩ from rfl] at P2
  clear h2
  go_wp2_with fail
  refine P2.mono ?_
  rintro e w3 ⟨rfl, h3, _⟩
  clear P2
  generalize more _ _ _ = F3 at h3
  have P3 := h3.put B d b (RB.out.below h3.bel) DA.out DB.out
  rw [E2.out.1, E2.out.2] at P3
  clear h3
  go_wp2_with fail
  refine P3.mono ?_
  rintro e w4 ⟨rfl, h4, _⟩
  clear P3
  generalize more _ _ _ = F4 at h4
  have P4 := h4.take 1000
  rw [show (⟨1000, a ++ b, false, true⟩ : Pip).takeL 1000 = [] from rfl, show (⟨1000, a ++ b, false, true⟩ : Pip).take 1000 = ⟨1000, a ++ b, false, true⟩ from rfl] at P4
  have L4 := Lib.hid h4.1.lt
  clear h4
  go_wp2_with fail
  refine P4.mono ?_
  rintro e w5 ⟨⟨A5, c5, rfl, own5⟩, h5, _⟩
  clear P4
  have P5 := h5.fault 0 0 0
  rw [show (⟨1000, a ++ b, false, true⟩ : Pip).faultB 0 0 = true from rfl, show (⟨1000, a ++ b, false, true⟩ : Pip).fault 0 0 0 = ⟨1000, a ++ b, false, false⟩ from rfl] at P5
  have OW5 := Lib.hid own5
  clear h5 own5
  go_wp2_with fail
  refine P5.mono ?_
  rintro e w6 ⟨rfl, h6, o6⟩
  clear P5
  have P6 := h6.take 1000
  rw [E3.out] at P6
  have O6 := Lib.hid o6
  clear h6 o6
  go_wp2_with fail
  refine P6.mono ?_
  rintro e w7 ⟨⟨A7, c7, rfl, own7⟩, h7, o7⟩
  have q1 := run_conv w7 A7 c7 (a ++ b) own7.rd
  have q2 := run_conv w7 A c a (RA.out.below h7.bel)
  have q3 := run_conv w7 B d b (RB.out.below h7.bel)
  unfold strV at q1 q2 q3
  have hcat : (a ++ b == (({ data := a.toArray } ++ { data := b.toArray } : ByteArray)).toList) = true := by
    rw [ByteArray.toList_eq]
    simp
  have hcmm : ¬ 9223372036854775807 < a.length + b.length := by omega
  clear E3
  generalize a ++ b = ab at *
  have FI := Lib.hid h7.bel
  clear P6 own7 h7 o7 O6 L4 OW5 E1 E2
  go_wp2
  go_ret
  exact ⟨rfl, FI.out⟩
theorem PipeStalls_walk (a0 : Option Addr) (len0 cap0 : Nat) (z0 : List Int) (a1 : Option Addr) (len1 cap1 : Nat) (z1 : List Int) (cut : Bool) (w : World)
    (h0 : (a0 = none ∧ len0 = 0 ∧ cap0 = 0 ∧ z0 = []) ∨ ∃ x, a0 = some x ∧ len0 ≤ cap0 ∧ cap0 ≤ maxLen ∧ z0.length = cap0 ∧ (∀ i, i < z0.length → w.cell? (x.add i) = some (.int .u8 (z0.getD i 0))) ∧ ∀ n ∈ z0, (Lit.int .u8 n).wf = true)
    (h1 : (a1 = none ∧ len1 = 0 ∧ cap1 = 0 ∧ z1 = []) ∨ ∃ x, a1 = some x ∧ len1 ≤ cap1 ∧ cap1 ≤ maxLen ∧ z1.length = cap1 ∧ (∀ i, i < z1.length → w.cell? (x.add i) = some (.int .u8 (z1.getD i 0))) ∧ ∀ n ∈ z1, (Lit.int .u8 n).wf = true) :
    Calls Try.prog 5 #[.slice a0 len0 cap0, .slice a1 len1 cap1, .bool cut] w fun e w' => e = .returned (.bool true) ∧ Below w.heap.size w w' := by
  obtain ⟨l0, rfl, hc0, hm0, hr0⟩ := Rd.of_row h0
  obtain ⟨l1, rfl, hc1, hm1, hr1⟩ := Rd.of_row h1
  by_cases hl0 : l0.length ≤ 200
  · by_cases hl1 : l1.length ≤ 200
    · cases cut
      · exact PipeStalls_stall a0 a1 cap0 cap1 l0 l1 w hr0 hr1 hl0 hl1 hc0 hm0 hc1 hm1
      · exact PipeStalls_cut a0 a1 cap0 cap1 l0 l1 w hr0 hr1 hl0 hl1 hc0 hm0 hc1 hm1
    · exact PipeStalls_far2 a0 a1 l0.length cap0 l1.length cap1 cut w hl0 (by omega) (by unfold maxLen at hm1; omega)
  · exact PipeStalls_far1 a0 a1 l0.length cap0 l1.length cap1 cut w (by omega) (by unfold maxLen at hm0; omega)
end Go.Proofs.Ytfneegndlkbgpaa

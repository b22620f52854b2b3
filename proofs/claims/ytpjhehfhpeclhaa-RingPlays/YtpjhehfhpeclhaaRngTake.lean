/- Take and Clear of a ring of the program. No condition. -/
import Derived.Test.YtpjhehfhpeclhaaRngPass
import Derived.Test.YtpjhehfhpeclhaaRngAdd
namespace Go.Proofs.Ytpjhehfhpeclhaa
open Go.RowKit
set_option linter.unusedVariables false

section
variable {w : World} {F : Nat → Prop} {b : Nat} {s : Rng}
/-- what was taken, in new memory -/
def Taken (l : List UInt8) (w : World) (e : Ending) (w' : World) : Prop := ∃ A c, e = .returned (.slice A l.length c) ∧ Own w' w.heap.size A c l
/-- the octets are cut at k: what is behind the store -/
theorem cut_mem {R g D : Nat} {o : List UInt8} {wh : List Nat} {A : Option Addr} {c : Nat} {B : Option Addr} {d : Nat} (h1 : w.heap[b]? = some (.cells (rc R A o.length c g B wh.length d D) 41 (0, 0))) (h2 : Mid w A c o) (h3 : MidV 3 w B d (wh.map iv)) (h4 : F b) (h5 : ∀ k, blk A = some k → F k) (h6 : ∀ k, blk B = some k → F k) (h7 : ∀ k, F k → k < w.heap.size) {k : Nat} (hk : k ≤ o.length) (A' : Option Addr) (hA : (c = k ∧ A' = A) ∨ ∃ g off, A = some ⟨g, off, none⟩ ∧ A' = some ⟨g, off + k, none⟩) :
    Raw (w.setCell ⟨b, 1, none⟩ (.slice A' (o.length - k) (c - k))) F b R (o.drop k) g wh D ∧ Only F w (w.setCell ⟨b, 1, none⟩ (.slice A' (o.length - k) (c - k))) := by
  have := (raw_setO (F := F) h1 h3 h4 h6 h7 (h2.rest hk A' hA) (fun q hq => by
    rcases hA with ⟨_, rfl⟩ | ⟨g, off, rfl, rfl⟩
    · exact h5 q hq
    · exact h5 q hq)).2
  rw [List.length_drop] at this
  exact this
set_option maxHeartbeats 400000 in
theorem take_calls (h : PQ w F b s) (n : Int) :
    Calls Try.prog 12 #[.pointer (some ⟨b, 0, none⟩), .int .i64 n] w fun e w' => Taken (s.takeL n) w e w' ∧ PQ w' F b (s.take n) ∧ Only F w w' := by
  have ok := h.2
  have okT := Lib.hid (ok.take n)
  have hgw := Rng.take_gw ok n
  have hto := Rng.take_o s n
  have hsum := Rng.gw_sum ok
  have hol : s.o.length ≤ 1048576 := Nat.le_trans ok.1 ok.2.1
  have hlt := h.lt
  obtain ⟨⟨A, c, B, d, h1, h2, h3, h4, h5, h6, h7⟩, _⟩ := h
  have hk := lim_le n s.o.length
  have hlim := lim_int n s.o.length
  have hcap := h2.1
  have hc63 : c ≤ 9223372036854775807 := by have := h2.2.1; unfold maxLen at this; omega
  have ht : (s.o.take (lim n s.o.length)).length = lim n s.o.length := by simp; omega
  have CL := cloneOwn_calls A c (s.o.take (lim n s.o.length)) w (h2.rd.front _) (by omega)
  rw [ht] at CL
  have c1 := (rcell h1).2.1
  have BW := Lib.hid (lt_of_block h1)
  have FZ := Lib.hid (show ∀ w1, Below w.heap.size w w1 → w1.frozen? ⟨b, 1, none⟩ = false from fun w1 bel => frozen_of_row w1 b 1 _ _ ((bel.block b BW.out).trans h1))
  have FIN := Lib.hid (show ∀ A', ((c = lim n s.o.length ∧ A' = A) ∨ ∃ g off, A = some ⟨g, off, none⟩ ∧ A' = some ⟨g, off + lim n s.o.length, none⟩) → ∀ w1, Below w.heap.size w w1 →
      Raw (w1.setCell ⟨b, 1, none⟩ (.slice A' (s.o.length - lim n s.o.length) (c - lim n s.o.length))) F b s.R (s.o.drop (lim n s.o.length)) s.g s.wh s.D ∧ Only F w1 (w1.setCell ⟨b, 1, none⟩ (.slice A' (s.o.length - lim n s.o.length) (c - lim n s.o.length))) from fun A' hA' w1 bel => by
    have on : Only (fun _ => False) w w1 := Only.of_below _ bel
    exact cut_mem ((bel.block b (lt_of_block h1)).trans h1) (h2.only on (fun _ _ h => h)) (h3.only on (fun _ _ h => h)) h4 h5 h6 (fun k hk => Nat.lt_of_lt_of_le (h7 k hk) bel.size) hk A' hA')
  have PS := Lib.hid (fun v (hv : Raw v F b s.R (s.o.drop (lim n s.o.length)) s.g s.wh s.D) => pass_calls hv (lim n s.o.length) (by omega) (by omega))
  rw [hgw] at PS
  have LAST := Lib.hid (show ∀ w1 w3 A1 c1', Own w1 w.heap.size A1 c1' (s.o.take (lim n s.o.length)) → Below w.heap.size w w1 → Only F w1 w3 → Raw w3 F b s.R (s.o.drop (lim n s.o.length)) (s.take n).g (s.take n).wh s.D → Own w3 w.heap.size A1 c1' (s.takeL n) ∧ PQ w3 F b (s.take n) ∧ Only F w w3 from fun w1 w3 A1 c1' own bel on raw => by
    refine ⟨own.only on (fun q hq hF => by have := (own.blk_ge q hq).1; have := hlt q hF; omega), ⟨?_, okT.out⟩, (Only.of_below F bel).trans on (fun _ _ h => h)⟩
    rw [hto]
    exact raw)
  have HT := Lib.hid (show s.takeL n = s.o.take (lim n s.o.length) from rfl)
  have hA := h2.2.2
  clear h1 h2 h3 h4 h5 h6 h7 hlt hgw hto hsum ht ok okT
  generalize (s.take n).g = g' at *
  generalize (s.take n).wh = wh' at *
  generalize s.o.take (lim n s.o.length) = l1 at *
  generalize s.o.drop (lim n s.o.length) = l2 at *
  generalize lim n s.o.length = k at *
  generalize s.o.length = m at *
  have hk0 : (0 : Int) ≤ (k : Int) := by omega
  have hkm : (k : Int) ≤ (m : Int) := by omega
  have hkc : (k : Int) ≤ (c : Int) := by omega
  have HCUT := Lib.hid hlim
  clear hlim
  go_enter Try.func12, Try.ntmps12
  go_upto_region 1 with (fail)
  go_cut [1] (fun s1 wx => s1 = .int .i64 (k : Int) ∧ w = wx)
  case first =>
    have hn : n < 0 ∨ (m : Int) < n ∨ (0 ≤ n ∧ n ≤ (m : Int)) := by omega
    rcases hn with hn | hn | ⟨hn, hn'⟩
    · go_wp2
      all_goals
        go_meet
        case rel => exact ⟨by first | rfl | (congr 1; done) | (congr 1; have := HCUT.out; omega), rfl⟩
    · go_wp2
      all_goals
        go_meet
        case rel => exact ⟨by first | rfl | (congr 1; done) | (congr 1; have := HCUT.out; omega), rfl⟩
    · go_wp2
      all_goals
        go_meet
        case rel => exact ⟨by first | rfl | (congr 1; done) | (congr 1; have := HCUT.out; omega), rfl⟩
  case rest =>
    obtain ⟨rfl, rfl⟩ := hcut
    clear HCUT
    rcases hA with ⟨rfl, rfl⟩ | ⟨g, off, cur, rfl, _⟩
    · have hk' : k = 0 := by omega
      have hm' : m = 0 := by omega
      subst hk' hm'
      have FI := Lib.hid (FIN.out none (.inl ⟨rfl, rfl⟩))
      clear FIN
      go_wp2_with fail
      refine CL.mono ?_
      rintro e w1 ⟨A1, c1', rfl, own, bel⟩
      have k1 := (bel.cell (p := ⟨b, 1, none⟩) BW.out).trans c1
      have z1 : w1.frozen? ⟨b, 1, none⟩ = false := FZ.out w1 bel
      obtain ⟨raw, on⟩ := FI.out w1 bel
      have PC := PS.out _ raw
      have OW := Lib.hid (show Own w1 w.heap.size A1 c1' l1 ∧ Below w.heap.size w w1 from ⟨own, bel⟩)
      have ON := Lib.hid on
      clear CL own bel c1 raw on FI PS FZ
      go_wp2_with fail
      refine PC.mono ?_
      rintro e w3 ⟨rfl, raw3, on3⟩
      have FJ := Lib.hid (LAST.out w1 w3 A1 c1' OW.out.1 OW.out.2 ((ON.out).trans on3 (fun _ _ h => h)) raw3)
      clear PC raw3 on3 OW ON LAST
      go_wp2
      go_ret
      exact ⟨⟨A1, c1', congrArg (fun q => Ending.returned (.slice A1 (List.length q) c1')) HT.out.symm, FJ.out.1⟩, FJ.out.2⟩
    by_cases hck : c = k
    · have FI0 := FIN.out _ (.inl ⟨hck, rfl⟩)
      rw [show c - k = 0 by omega, show m - k = 0 by omega] at FI0
      have FI := Lib.hid FI0
      clear FIN FI0
      subst hck
      go_wp2_with fail
      refine CL.mono ?_
      rintro e w1 ⟨A1, c1', rfl, own, bel⟩
      have k1 := (bel.cell (p := ⟨b, 1, none⟩) BW.out).trans c1
      have z1 : w1.frozen? ⟨b, 1, none⟩ = false := FZ.out w1 bel
      obtain ⟨raw, on⟩ := FI.out w1 bel
      have PC := PS.out _ raw
      have OW := Lib.hid (show Own w1 w.heap.size A1 c1' l1 ∧ Below w.heap.size w w1 from ⟨own, bel⟩)
      have ON := Lib.hid on
      clear CL own bel c1 raw on FI PS FZ
      go_wp2_with fail
      refine PC.mono ?_
      rintro e w3 ⟨rfl, raw3, on3⟩
      have FJ := Lib.hid (LAST.out w1 w3 A1 c1' OW.out.1 OW.out.2 ((ON.out).trans on3 (fun _ _ h => h)) raw3)
      clear PC raw3 on3 OW ON LAST
      go_wp2
      go_ret
      exact ⟨⟨A1, c1', congrArg (fun q => Ending.returned (.slice A1 (List.length q) c1')) HT.out.symm, FJ.out.1⟩, FJ.out.2⟩
    · have FI := Lib.hid (FIN.out _ (.inr ⟨g, off, rfl, rfl⟩))
      clear FIN
      go_wp2_with fail
      refine CL.mono ?_
      rintro e w1 ⟨A1, c1', rfl, own, bel⟩
      have k1 := (bel.cell (p := ⟨b, 1, none⟩) BW.out).trans c1
      have z1 : w1.frozen? ⟨b, 1, none⟩ = false := FZ.out w1 bel
      obtain ⟨raw, on⟩ := FI.out w1 bel
      have PC := PS.out _ raw
      have OW := Lib.hid (show Own w1 w.heap.size A1 c1' l1 ∧ Below w.heap.size w w1 from ⟨own, bel⟩)
      have ON := Lib.hid on
      clear CL own bel c1 raw on FI PS FZ
      go_wp2_with fail
      refine PC.mono ?_
      rintro e w3 ⟨rfl, raw3, on3⟩
      have FJ := Lib.hid (LAST.out w1 w3 A1 c1' OW.out.1 OW.out.2 ((ON.out).trans on3 (fun _ _ h => h)) raw3)
      clear PC raw3 on3 OW ON LAST
      go_wp2
      go_ret
      exact ⟨⟨A1, c1', congrArg (fun q => Ending.returned (.slice A1 (List.length q) c1')) HT.out.symm, FJ.out.1⟩, FJ.out.2⟩
set_option maxHeartbeats 400000 in
theorem clear_calls (h : PQ w F b s) :
    Calls Try.prog 14 #[.pointer (some ⟨b, 0, none⟩)] w fun e w' => e = .returned (.int .i64 (s.gone : Int)) ∧ Turn F b s.clear w w' := by
  have ok := h.2
  have okC := ok.clear
  have hgl := Rng.g_le s
  have hol : s.o.length ≤ 1048576 := Nat.le_trans ok.1 ok.2.1
  obtain ⟨⟨A, c, B, d, h1, h2, h3, h4, h5, h6, h7⟩, _⟩ := h
  have hcap := h2.1
  have hc63 : c ≤ 9223372036854775807 := by have := h2.2.1; unfold maxLen at this; omega
  obtain ⟨c0, c1, c2, c3, c4⟩ := rcell h1
  have ht : (s.o.take s.g).length = s.g := by simp; omega
  obtain ⟨z1, raw1, on1⟩ := raw_setO (F := F) h1 h3 h4 h6 h7 (h2.front s.g) h5
  rw [ht] at raw1 on1
  obtain ⟨A2, c2', B2, d2, q1, q2, q3, q4, q5, q6, q7⟩ := id raw1
  obtain ⟨z3, raw2, on2⟩ := raw_setW (F := F) (wh' := []) (d' := 0) (B' := none) q1 q2 q4 q5 q7 (MidV.nil _ _) (fun k hk => by simp [blk] at hk)
  have FI := Lib.hid (show ∀ n, Turn F b s.clear w (((w.setCell ⟨b, 1, none⟩ (.slice A s.g c)).setCell ⟨b, 3, none⟩ (.slice none 0 0)).drewN n) from fun n => by
    refine Turn.drewN (Turn.of_same ⟨?_, okC⟩ (on1.trans on2 (fun _ _ h => h)) h7) n
    rw [Rng.clear_o, (Rng.clear_gw s).1, (Rng.clear_gw s).2]
    exact raw2)
  have zz1 := frozen_of_row w b 1 _ _ h1
  have zz3 := frozen_of_row w b 3 _ _ h1
  have hgone : (s.o.length : Int) - (s.g : Int) = (s.gone : Int) := by unfold Rng.gone; omega
  have hww : wrap64 ((s.o.length : Int) - (s.g : Int)) = (s.gone : Int) := by unfold wrap64 Rng.gone; omega
  clear h1 h2 h3 h4 h5 h6 h7 q1 q2 q3 q4 q5 q6 q7 raw1 raw2 on1 on2 z1 z3 ht ok okC c0 c4
  generalize s.gone = k at *
  generalize s.g = g at *
  generalize s.o.length = m at *
  have hg0 : (0 : Int) ≤ (g : Int) := by omega
  have hgc : (g : Int) ≤ (c : Int) := by omega
  go_enter Try.func14, Try.ntmps14
  go_wp2_with fail
  go_quiet (fail)
  go_wp2_with fail
  go_region
  go_wp2
  go_ret
  exact ⟨rfl, FI.out _⟩
end
end Go.Proofs.Ytpjhehfhpeclhaa

/- Package arq walked, part 11 of 15 (merged texts: AqInput, LogNew, OrdNew, AqNew, AlAdd, AqCall, AoTake). No condition. -/
import Derived.Test.YtgkdabllaankcaaG10
import Derived.Test.YtgkdabllaankcaaG1
import Derived.Test.YtgkdabllaankcaaG3
import Derived.Test.YtgkdabllaankcaaG6
import Derived.Deep.RegionHeld
import Derived.Deep.RegionLaw
/- Input of an end of a session. Condition: room for outputs, indications, messages; the input reads as its octets and is not the end's own. -/
namespace Go.Proofs.Ytgkdabllaankcaa
open Go.RowKit
set_option linter.unusedVariables false

section
variable {w : World} {F : Nat → Prop} {b : Nat} {s : Aq} {X : Option Addr} {e : Nat}
theorem Rd.blk_lt {A : Option Addr} {l : List UInt8} (h : Rd w A l) (hl : l ≠ []) : ∀ k, blk A = some k → k < w.heap.size := fun k hk => by
  obtain ⟨b, off, rfl, hc⟩ := h hl
  injection hk with hk
  have := hc 0 (List.length_pos_iff.2 hl)
  exact hk ▸ World.block_lt_of_cell? w _ this
set_option maxRecDepth 20000 in
set_option maxHeartbeats 2000000 in
theorem aqInput_calls (h : AqP w F b s) (hr : s.Room) (x : List UInt8) (hrd : Rd w X x) (hx : x.length ≤ 90000) (hxe : x.length ≤ e) (he : e ≤ 9223372036854775807) (hXF : ∀ i, blk X = some i → ¬ F i) :
    Calls Try.prog 21 #[.pointer (some ⟨b, 0, none⟩), .slice X x.length e] w fun r w' => r = .returned (.tuple #[]) ∧ AqTurn F b (s.input x) w w' := by
  have RC := aqRead_calls (e := e) h x hrd hx hxe he
  have hlt := h.lt
  have FB := Lib.hid (show (x.length < 2 ∨ (rdC (x.drop 2) s.m).2.2 ≠ 0) → ∀ v, Below w.heap.size w v → AqTurn F b (s.input x) w v from fun hc v be => by
    have es : s.input x = s := by
      unfold Aq.input
      rcases hc with hc | hc
      · rw [if_pos hc]
      · by_cases h2 : x.length < 2
        · rw [if_pos h2]
        · rw [if_neg h2, if_pos hc]
    rw [es]
    exact (AqTurn.refl (h.below be)).after be hlt)
  have FG := Lib.hid (show ¬ x.length < 2 → (rdC (x.drop 2) s.m).2.2 = 0 → ∀ v Y d, Below w.heap.size w v → Rd w Y (x.drop (2 + (rdC (x.drop 2) s.m).2.1.toNat)) → (∀ k, blk Y = some k → blk X = some k) →
      Calls Try.prog 40 #[.pointer (some ⟨b, 0, none⟩), rvv (Aq.tagOf x) (rdC (x.drop 2) s.m).1.1 (rdC (x.drop 2) s.m).1.2.1 (rdC (x.drop 2) s.m).1.2.2.1 (rdC (x.drop 2) s.m).1.2.2.2 Y (x.drop (2 + (rdC (x.drop 2) s.m).2.1.toNat)).length d] v fun r w' => r = .returned (.tuple #[]) ∧ AqTurn F b (s.input x) w w' from fun h2 h0 v Y d be hY hb => by
    have es : s.input x = s.proc (Aq.tagOf x) (rdC (x.drop 2) s.m).1.1 (rdC (x.drop 2) s.m).1.2.1 (rdC (x.drop 2) s.m).1.2.2.1 (rdC (x.drop 2) s.m).1.2.2.2 (x.drop (2 + (rdC (x.drop 2) s.m).2.1.toNat)) := by
      unfold Aq.input
      rw [if_neg h2, if_neg (by rw [h0]; simp)]
    rw [es]
    obtain ⟨n, g1, g2, g3, g4, g5, g6, g7, g8, g9, g10⟩ := rdC_good (r := rdC (x.drop 2) s.m) rfl h0
    have hl : (x.drop (2 + (rdC (x.drop 2) s.m).2.1.toNat)).length ≤ 1048576 := by rw [List.length_drop]; omega
    refine (aqProc_calls (h.below be) hr (by unfold I64; omega) (by unfold I64; omega) _ (hY.below be) hl (fun i hi => hXF i (hb i hi)) (fun i hi => Nat.lt_of_lt_of_le (hrd.blk_lt (by rintro rfl; simp at h2) i (hb i hi)) be.size) (Aq.tagOf_lt x) ⟨g5, g6⟩).mono ?_
    rintro r w' ⟨rfl, T⟩
    exact ⟨rfl, T.after be hlt⟩)
  clear h hr hrd hx hxe he hXF
  unfold AqRd at RC
  by_cases hc : ¬ x.length < 2 ∧ (rdC (x.drop 2) s.m).2.2 = 0
  · have FG2 := Lib.hid (FG.out hc.1 hc.2)
    have RC2 := RC.mono (show ∀ r w', _ → ∃ Y d, r = .returned (.tuple #[rvv (Aq.tagOf x) (rdC (x.drop 2) s.m).1.1 (rdC (x.drop 2) s.m).1.2.1 (rdC (x.drop 2) s.m).1.2.2.1 (rdC (x.drop 2) s.m).1.2.2.2 Y (x.drop (2 + (rdC (x.drop 2) s.m).2.1.toNat)).length d, .bool true]) ∧ Below w.heap.size w w' ∧ Rd w Y (x.drop (2 + (rdC (x.drop 2) s.m).2.1.toNat)) ∧ ∀ k, blk Y = some k → blk X = some k from fun r w' hh => by
      rcases hh with ⟨hb, ⟨_, _, Y, d, h1, h2, h3⟩ | ⟨h1, _⟩⟩
      · exact ⟨Y, d, h1, hb, h2, h3⟩
      · exact absurd hc (fun hc => h1.elim hc.1 (fun h => h hc.2)))
    clear RC FB FG hc
    unfold rvv rvc at RC2 FG2
    generalize (rdC (x.drop 2) s.m).1.1 = k at *
    generalize (rdC (x.drop 2) s.m).1.2.1 = ns at *
    generalize (rdC (x.drop 2) s.m).1.2.2.1 = nr at *
    generalize (rdC (x.drop 2) s.m).1.2.2.2 = p at *
    generalize x.drop (2 + (rdC (x.drop 2) s.m).2.1.toNat) = M at *
    generalize Aq.tagOf x = t at *
    go_enter Try.func21, Try.ntmps21
    go_wp2_with fail
    refine RC2.mono ?_
    rintro e1 w1 ⟨Y, d, rfl, be, rd, hb⟩
    obtain ⟨W2, hW2⟩ : ∃ W2, w1.alloc (.cells #[.int .i64 (t : Int), .int .i64 k, .int .i64 ns, .int .i64 nr, .bool p, .slice Y M.length d] 75) = W2 := ⟨_, rfl⟩
    have PC := FG2.out W2 Y d (by rw [← hW2]; exact be.alloc be.size _) rd hb
    have hh : W2.heap[w1.heap.size]? = some (.cells #[.int .i64 (t : Int), .int .i64 k, .int .i64 ns, .int .i64 nr, .bool p, .slice Y M.length d] 75 (0, 0)) := by rw [← hW2]; exact heap_alloc_new w1 _
    have b0 : W2.cell? ⟨w1.heap.size, 0, none⟩ = some (.int .i64 (t : Int)) := by rw [cell_of_row W2 _ _ _ _ (0, 0) hh]; rfl
    have b1 : W2.cell? ⟨w1.heap.size, 1, none⟩ = some (.int .i64 k) := by rw [cell_of_row W2 _ _ _ _ (0, 0) hh]; rfl
    have b2 : W2.cell? ⟨w1.heap.size, 2, none⟩ = some (.int .i64 ns) := by rw [cell_of_row W2 _ _ _ _ (0, 0) hh]; rfl
    have b3 : W2.cell? ⟨w1.heap.size, 3, none⟩ = some (.int .i64 nr) := by rw [cell_of_row W2 _ _ _ _ (0, 0) hh]; rfl
    have b4 : W2.cell? ⟨w1.heap.size, 4, none⟩ = some (.bool p) := by rw [cell_of_row W2 _ _ _ _ (0, 0) hh]; rfl
    have b5 : W2.cell? ⟨w1.heap.size, 5, none⟩ = some (.slice Y M.length d) := by rw [cell_of_row W2 _ _ _ _ (0, 0) hh]; rfl
    clear be rd hb RC2 FG2 hh
    go_wp2_with fail
    refine PC.mono ?_
    rintro e2 w3 ⟨rfl, T⟩
    have FI := Lib.hid T
    clear T PC
    go_wp2
    go_end0
    exact ⟨rfl, FI.out⟩
  · have hc' : x.length < 2 ∨ (rdC (x.drop 2) s.m).2.2 ≠ 0 := by
      by_cases h2 : x.length < 2
      · exact .inl h2
      · exact .inr (fun h => hc ⟨h2, h⟩)
    have FB2 := Lib.hid (FB.out hc')
    have RC2 := RC.mono (show ∀ r w', _ → r = .returned (.tuple #[rvv 0 0 0 0 false none 0 0, .bool false]) ∧ Below w.heap.size w w' from fun r w' hh => by
      rcases hh with ⟨hb, ⟨h1, h2, _⟩ | ⟨_, h1⟩⟩
      · exact absurd ⟨h1, h2⟩ hc
      · exact ⟨h1, hb⟩)
    clear RC FB FG hc hc'
    unfold rvv rvc at RC2
    go_enter Try.func21, Try.ntmps21
    go_wp2_with fail
    refine RC2.mono ?_
    rintro e1 w1 ⟨rfl, be⟩
    have FI := Lib.hid (FB2.out _ (be.alloc be.size (.cells #[.int .i64 0, .int .i64 0, .int .i64 0, .int .i64 0, .bool false, .slice none 0 0] 75)))
    clear be RC2 FB2
    go_wp2
    go_end0
    exact ⟨rfl, FI.out⟩
end
end Go.Proofs.Ytgkdabllaankcaa
/- New of a log of the program. No condition. -/
namespace Go.Proofs.Ytgkdabllaankcaa
open Go.RowKit
set_option linter.unusedVariables false

/-- the cells of a log -/
def lgc (m W Q f x : Nat) (A : Option Addr) (k c : Nat) : Array Value := #[.int .i64 (m : Int), .int .i64 (W : Int), .int .i64 (Q : Int), .int .i64 (f : Int), .int .i64 (x : Int), .slice A k c]
theorem lgLimit_calls (n a c : Int) (w : World) (ha : a ≤ c) : Calls Try.prog 62 #[.int .i64 n, .int .i64 a, .int .i64 c] w fun e w' => e = .returned (.int .i64 (min (max n a) c)) ∧ w' = w := by
  go_enter Try.func62, Try.ntmps62
  go_wp2
  all_goals
    go_ret
    exact ⟨ret_int (by omega), rfl⟩
theorem lgNew_calls (m W Q : Int) (w : World) : Calls Try.prog 41 #[.int .i64 m, .int .i64 W, .int .i64 Q] w fun e w' => e = .returned (.pointer (some ⟨w.heap.size, 0, none⟩)) ∧ w.alloc (.cells (lgc (Lg.new m W Q).m (Lg.new m W Q).W (Lg.new m W Q).Q 0 0 none 0 0) 60) = w' := by
  have ok := Lg.new_ok m W Q
  have L1 := fun v => lgLimit_calls m 8 32768 v (by decide)
  have L2 := fun v => lgLimit_calls W 1 (((Lg.new m W Q).m : Int) / 8) v (by have := ok.w1; have := ok.w8; omega)
  have L3 := fun v => lgLimit_calls Q 0 1000 v (by decide)
  rw [Lg.new_m m W Q] at L1
  rw [Lg.new_W] at L2
  rw [Lg.new_Q m W Q] at L3
  have b1 := ok.m8
  have b2 := ok.m9
  clear ok
  generalize Lg.new m W Q = s at *
  have hq : wrap64 ((s.m : Int) / 8) = (s.m : Int) / 8 := by unfold wrap64; omega
  unfold lgc
  go_enter Try.func41, Try.ntmps41
  go_wp2_with fail
  refine (L1 _).mono ?_
  rintro e w' ⟨rfl, rfl⟩
  go_wp2_with fail
  refine (L2 _).mono ?_
  rintro e w' ⟨rfl, rfl⟩
  go_wp2_with fail
  refine (L3 _).mono ?_
  rintro e w' ⟨rfl, rfl⟩
  go_wp2
  go_ret
  exact ⟨rfl, rfl⟩
end Go.Proofs.Ytgkdabllaankcaa
/- New of an order of the program. No condition. -/
namespace Go.Proofs.Ytgkdabllaankcaa
open Go.RowKit
set_option linter.unusedVariables false

/-- the cells of an order -/
def odc (m W e B : Nat) (A : Option Addr) (n c : Nat) : Array Value := #[.int .i64 (m : Int), .int .i64 (W : Int), .int .i64 (e : Int), .map (some B), .slice A n c]
theorem odLimit_calls (n a c : Int) (w : World) (ha : a ≤ c) : Calls Try.prog 63 #[.int .i64 n, .int .i64 a, .int .i64 c] w fun e w' => e = .returned (.int .i64 (min (max n a) c)) ∧ w' = w := by
  go_enter Try.func63, Try.ntmps63
  go_wp2
  all_goals
    go_ret
    exact ⟨ret_int (by omega), rfl⟩
theorem odNew_calls (m W : Int) (w : World) : Calls Try.prog 42 #[.int .i64 m, .int .i64 W] w fun e w' => e = .returned (.pointer (some ⟨w.heap.size + 1, 0, none⟩)) ∧ (w.alloc (.map #[] 0)).alloc (.cells (odc (Od.new m W).m (Od.new m W).W 0 w.heap.size none 0 0) 63) = w' := by
  have ok := Od.new_ok m W
  have L1 := fun v => odLimit_calls m 8 32768 v (by decide)
  have L2 := fun v => odLimit_calls W 1 (((Od.new m W).m : Int) / 8) v (by have := ok.w1; have := ok.w8; omega)
  rw [Od.new_m m W] at L1
  rw [Od.new_W] at L2
  have b1 := ok.m8
  have b2 := ok.m9
  clear ok
  generalize Od.new m W = s at *
  have hq : wrap64 ((s.m : Int) / 8) = (s.m : Int) / 8 := by unfold wrap64; omega
  have hmm := @run_makeMap Try.prog
  unfold odc
  go_enter Try.func42, Try.ntmps42
  go_wp2_with fail
  refine (L1 _).mono ?_
  rintro e w' ⟨rfl, rfl⟩
  go_wp2_with fail
  refine (L2 _).mono ?_
  rintro e w' ⟨rfl, rfl⟩
  go_wp2
  go_ret
  exact ⟨by simp, by simp⟩
end Go.Proofs.Ytgkdabllaankcaa
/- New of an end of a session. No condition. -/
namespace Go.Proofs.Ytgkdabllaankcaa
open Go.RowKit
set_option linter.unusedVariables false

/-- the value of a configuration -/
structure Cf where
  (mode md W t1 n2 ho wa ke q sz ri ra ba go : Int)
  (rv wd : Bool)
def cfc (c : Cf) : Array Value := #[.int .i64 c.mode, .int .i64 c.md, .int .i64 c.W, .int .i64 c.t1, .int .i64 c.n2, .int .i64 c.ho, .int .i64 c.wa, .int .i64 c.ke, .int .i64 c.q, .int .i64 c.sz, .int .i64 c.ri, .int .i64 c.ra, .int .i64 c.ba, .int .i64 c.go, .bool c.rv, .bool c.wd]
def cfv (c : Cf) : Value := .agg (cfc c)
def Aq.newC (c : Cf) : Aq := Aq.new c.md c.W c.t1 c.n2 c.q c.sz
/-- what New returns -/
def AqMade (c : Cf) (w : World) (e : Ending) (w' : World) : Prop := ∃ b F, e = .returned (.pointer (some ⟨b, 0, none⟩)) ∧ AqP w' F b (Aq.newC c) ∧ (∀ k, F k → w.heap.size ≤ k) ∧ Below w.heap.size w w'
/-- another condition on the worlds from here on -/
theorem wpAnyH_weaken {P : Program} {md : Region.Mode} {ops : Array Oper} {Q : Exit → Act → World → Prop} {S1 S2 : World → Prop} (h : ∀ v, S2 v → S1 v) : ∀ (fuel : Nat) (listed : Array Bool) (a : Act) (w : World), wpAnyH P md ops Q S2 fuel listed a w → wpAnyH P md ops Q S1 fuel listed a w
  | 0, _, _, _, H => H
  | fuel + 1, _, _, _, H => ⟨H.1, fun i hi => wpOp_mono (fun a' w' h' => ⟨h w' h'.1, wpAnyH_weaken h fuel _ a' w' h'.2⟩) (H.2 i hi)⟩
/-- the cells of a new end -/
def naqc (m : Int) (t1 n2 sz lm lW lQ om oW B : Nat) : Array Value :=
  #[.int .i64 m, .int .i64 (t1 : Int), .int .i64 (n2 : Int), .int .i64 (sz : Int), .int .i64 0, .int .i64 0,
    .int .i64 (lm : Int), .int .i64 (lW : Int), .int .i64 (lQ : Int), .int .i64 0, .int .i64 0, .slice none 0 0,
    .int .i64 (om : Int), .int .i64 (oW : Int), .int .i64 0, .map (some B), .slice none 0 0,
    .int .i64 0, .int .i64 0, .bool false, .slice none 0 0, .slice none 0 0, .int .i64 0, .int .i64 0, .int .i64 0]
set_option maxRecDepth 20000 in
set_option maxHeartbeats 4000000 in
theorem aqNew_mid (c : Cf) (w : World) (M : Nat) (Mi : Int) (hMi : (M : Int) = Mi) (hM : (if c.md = 32768 then 32768 else 128 : Int) = (M : Int)) (hm : (c.md == 32768) = decide (Mi = 32768)) (hM2 : Mi = 128 ∨ Mi = 32768) :
    Calls Try.prog 22 #[cfv c] w (AqMade c w) := by
  obtain ⟨W0, hW0⟩ : ∃ W0, w.alloc (.cells (cfc c) 25) = W0 := ⟨_, rfl⟩
  have be0 : Below w.heap.size w W0 := by rw [← hW0]; exact (Below.refl _ _).alloc (Nat.le_refl _) _
  have hs0 : W0.heap.size = w.heap.size + 1 := by rw [← hW0]; simp
  have hh0 : W0.heap[w.heap.size]? = some (.cells (cfc c) 25 (0, 0)) := by rw [← hW0]; exact heap_alloc_new w _
  obtain ⟨W, hW⟩ : ∃ W, W0.drew = W := ⟨_, rfl⟩
  have beW : Below w.heap.size w W := by rw [← hW]; exact be0.drew
  have hsW : W.heap.size = w.heap.size + 1 := by rw [← hW]; exact hs0
  have hhW : W.heap[w.heap.size]? = some (.cells (cfc c) 25 (0, 0)) := by rw [← hW]; exact hh0
  have HS : ∀ v, Below W.heap.size W v → v.cell? ⟨w.heap.size, 3, none⟩ = some (.int .i64 c.t1) ∧ v.cell? ⟨w.heap.size, 4, none⟩ = some (.int .i64 c.n2) ∧ v.cell? ⟨w.heap.size, 9, none⟩ = some (.int .i64 c.sz) ∧ v.cell? ⟨w.heap.size, 2, none⟩ = some (.int .i64 c.W) ∧ v.cell? ⟨w.heap.size, 8, none⟩ = some (.int .i64 c.q) := by
    intro v hv
    refine ⟨?_, ?_, ?_, ?_, ?_⟩ <;> rw [hv.cell (show w.heap.size < W.heap.size by omega), cell_of_row W _ _ _ _ (0, 0) hhW] <;> rfl
  have HK := Lib.hid HS
  have k1 : W0.cell? ⟨w.heap.size, 1, none⟩ = some (.int .i64 c.md) := by rw [cell_of_row W0 _ _ _ _ (0, 0) hh0]; rfl
  have L1 := fun v => aqLimit_calls c.t1 1 1048576 v (by decide)
  have L2 := fun v => aqLimit_calls c.n2 1 100 v (by decide)
  have L3 := fun v => aqLimit_calls c.sz 1 1000 v (by decide)
  obtain ⟨T, hT⟩ : ∃ T : Nat, min (max c.t1 1) 1048576 = (T : Int) := ⟨(min (max c.t1 1) 1048576).toNat, by omega⟩
  obtain ⟨N, hN⟩ : ∃ N : Nat, min (max c.n2 1) 100 = (N : Int) := ⟨(min (max c.n2 1) 100).toNat, by omega⟩
  obtain ⟨Z, hZ⟩ : ∃ Z : Nat, min (max c.sz 1) 1000 = (Z : Int) := ⟨(min (max c.sz 1) 1000).toNat, by omega⟩
  rw [hT] at L1
  rw [hN] at L2
  rw [hZ] at L3
  have LG := lgNew_calls (M : Int) c.W c.q W
  have ODF := fun v => odNew_calls (M : Int) c.W v
  rw [hMi] at LG
  simp only [hMi] at ODF
  have oL := Lg.new_ok (M : Int) c.W c.q
  have oO := Od.new_ok (M : Int) c.W
  have eA : Aq.newC c = ⟨M, T, N, Z, 0, 0, Lg.new (M : Int) c.W c.q, Od.new (M : Int) c.W, 0, 0, false, [], [], 0, 0, 0⟩ := by
    have h1 : (if c.md = 32768 then 32768 else 128 : Nat) = M := by
      split at hM <;> (rename_i hc; simp only [hc, if_true, if_false]; omega)
    unfold Aq.newC Aq.new
    rw [hM, hT, hN, hZ, h1]
    simp only [Int.toNat_natCast]
  have okA : (Aq.newC c).Ok := Aq.new_ok ..
  rw [eA] at okA
  rw [hMi] at eA okA oL oO
  have hLn : (Lg.new Mi c.W c.q).l = [] ∧ (Lg.new Mi c.W c.q).f = 0 ∧ (Lg.new Mi c.W c.q).nx = 0 := ⟨rfl, rfl, Lg.new_nx ..⟩
  have hOn : (Od.new Mi c.W).k = [] ∧ (Od.new Mi c.W).r = [] ∧ (Od.new Mi c.W).e = 0 := ⟨rfl, rfl, rfl⟩
  generalize Lg.new Mi c.W c.q = L at *
  generalize Od.new Mi c.W = O at *
  obtain ⟨w2, hw2⟩ : ∃ w2, W.alloc (.cells (lgc L.m L.W L.Q 0 0 none 0 0) 60) = w2 := ⟨_, rfl⟩
  have b2 : Below W.heap.size W w2 := by rw [← hw2]; exact (Below.refl _ _).alloc (Nat.le_refl _) _
  have s2 : w2.heap.size = W.heap.size + 1 := by rw [← hw2]; simp
  have h2 : w2.heap[W.heap.size]? = some (.cells (lgc L.m L.W L.Q 0 0 none 0 0) 60 (0, 0)) := by rw [← hw2]; exact heap_alloc_new W _
  have OD := ODF w2
  obtain ⟨w3, hw3⟩ : ∃ w3, (w2.alloc (.map #[] 0)).alloc (.cells (odc O.m O.W 0 w2.heap.size none 0 0) 63) = w3 := ⟨_, rfl⟩
  have b3 : Below W.heap.size W w3 := by rw [← hw3]; exact (b2.alloc (by omega) _).alloc (by simp [s2]; omega) _
  have s3 : w3.heap.size = W.heap.size + 3 := by rw [← hw3]; simp [s2]
  have h3 : w3.heap[W.heap.size + 2]? = some (.cells (odc O.m O.W 0 w2.heap.size none 0 0) 63 (0, 0)) := by
    have := heap_alloc_new (w2.alloc (.map #[] 0)) (.cells (odc O.m O.W 0 w2.heap.size none 0 0) 63)
    rw [hw3] at this
    simpa [s2] using this
  have hM3 : MpR w3 (W.heap.size + 1) [] := by
    rw [← hw3, ← s2]
    exact (MpR.made w2).block (Below.heap_alloc _ _ _ (by simp))
  have h23 : w3.heap[W.heap.size]? = some (.cells (lgc L.m L.W L.Q 0 0 none 0 0) 60 (0, 0)) := by
    rw [← hw3, Below.heap_alloc _ _ _ (by simp [s2]; omega), Below.heap_alloc _ _ _ (by simp [s2])]
    exact h2
  obtain ⟨w4, hw4⟩ : ∃ w4, w3.alloc (.cells (naqc Mi T N Z L.m L.W L.Q O.m O.W w2.heap.size) 65) = w4 := ⟨_, rfl⟩
  have b4 : Below W.heap.size W w4 := by rw [← hw4]; exact b3.alloc (by omega) _
  have h4 : w4.heap[W.heap.size + 3]? = some (.cells (naqc Mi T N Z L.m L.W L.Q O.m O.W w2.heap.size) 65 (0, 0)) := by
    have := heap_alloc_new w3 (.cells (naqc Mi T N Z L.m L.W L.Q O.m O.W w2.heap.size) 65)
    rw [hw4, s3] at this
    exact this
  have hM4 : MpR w4 (W.heap.size + 1) [] := by
    rw [← hw4]
    exact hM3.block (Below.heap_alloc _ _ _ (by omega))
  have s4 : w4.heap.size = W.heap.size + 4 := by rw [← hw4]; simp [s3]
  have FI := Lib.hid (show AqMade c w (.returned (.pointer (some ⟨W.heap.size + 3, 0, none⟩))) w4 from by
    unfold AqMade
    rw [eA]
    refine ⟨_, fun k => k = W.heap.size + 3 ∨ k = W.heap.size + 1, rfl, ⟨⟨fun k => k = W.heap.size + 3, fun k => k = W.heap.size + 3 ∨ k = W.heap.size + 1, fun k => k = W.heap.size + 3, ⟨rfl, .inl rfl, rfl, fun k h _ => h, fun k h _ => h, fun k _ h => h, fun k => ⟨fun h => h.elim .inl (fun h => .inr (.inl (.inr h))), fun h => h.elim .inl (fun h => h.elim id .inl)⟩, fun k h => by omega⟩, ⟨none, 0, W.heap.size + 1, none, 0, none, 0, none, 0⟩, ?_, ?_, ⟨?_, ?_⟩, ?_, ?_⟩, okA⟩, fun k h => by omega, beW.trans (b4.mono (by omega))⟩
    · rw [h4, s2]
      unfold aqc naqc
      simp only [hLn.1, hLn.2.1, hLn.2.2, hOn.2.1, hOn.2.2, List.length_nil]
      rw [hMi]
      rfl
    · simp only [hLn.1]
      exact ⟨[], MidV.nil _ _, trivial, fun k hk => by simp [blk] at hk⟩
    · simp only [hOn.1]
      exact ⟨[], hM4, trivial, .inr rfl⟩
    · simp only [hOn.2.1]
      exact ⟨[], MidV.nil _ _, trivial, fun k hk => by simp [blk] at hk⟩
    · exact ⟨[], MidV.nil _ _, trivial, fun k hk => by simp [blk] at hk⟩
    · exact ⟨MidV.nil _ _, fun k hk => by simp [blk] at hk⟩)
  have q20 : w2.cell? ⟨W.heap.size, 0, none⟩ = some (.int .i64 (L.m : Int)) := by rw [cell_of_row w2 _ _ _ _ (0, 0) h2]; rfl
  have q21 : w2.cell? ⟨W.heap.size, 1, none⟩ = some (.int .i64 (L.W : Int)) := by rw [cell_of_row w2 _ _ _ _ (0, 0) h2]; rfl
  have q22 : w2.cell? ⟨W.heap.size, 2, none⟩ = some (.int .i64 (L.Q : Int)) := by rw [cell_of_row w2 _ _ _ _ (0, 0) h2]; rfl
  have q23 : w2.cell? ⟨W.heap.size, 3, none⟩ = some (.int .i64 ((0 : Nat) : Int)) := by rw [cell_of_row w2 _ _ _ _ (0, 0) h2]; rfl
  have q24 : w2.cell? ⟨W.heap.size, 4, none⟩ = some (.int .i64 ((0 : Nat) : Int)) := by rw [cell_of_row w2 _ _ _ _ (0, 0) h2]; rfl
  have q25 : w2.cell? ⟨W.heap.size, 5, none⟩ = some (.slice none 0 0) := by rw [cell_of_row w2 _ _ _ _ (0, 0) h2]; rfl
  have q30 : w3.cell? ⟨W.heap.size, 0, none⟩ = some (.int .i64 (L.m : Int)) := by rw [cell_of_row w3 _ _ _ _ (0, 0) h23]; rfl
  have q31 : w3.cell? ⟨W.heap.size, 1, none⟩ = some (.int .i64 (L.W : Int)) := by rw [cell_of_row w3 _ _ _ _ (0, 0) h23]; rfl
  have q32 : w3.cell? ⟨W.heap.size, 2, none⟩ = some (.int .i64 (L.Q : Int)) := by rw [cell_of_row w3 _ _ _ _ (0, 0) h23]; rfl
  have q33 : w3.cell? ⟨W.heap.size, 3, none⟩ = some (.int .i64 ((0 : Nat) : Int)) := by rw [cell_of_row w3 _ _ _ _ (0, 0) h23]; rfl
  have q34 : w3.cell? ⟨W.heap.size, 4, none⟩ = some (.int .i64 ((0 : Nat) : Int)) := by rw [cell_of_row w3 _ _ _ _ (0, 0) h23]; rfl
  have q35 : w3.cell? ⟨W.heap.size, 5, none⟩ = some (.slice none 0 0) := by rw [cell_of_row w3 _ _ _ _ (0, 0) h23]; rfl
  have r30 : w3.cell? ⟨W.heap.size + 2, 0, none⟩ = some (.int .i64 (O.m : Int)) := by rw [cell_of_row w3 _ _ _ _ (0, 0) h3]; rfl
  have r31 : w3.cell? ⟨W.heap.size + 2, 1, none⟩ = some (.int .i64 (O.W : Int)) := by rw [cell_of_row w3 _ _ _ _ (0, 0) h3]; rfl
  have r32 : w3.cell? ⟨W.heap.size + 2, 2, none⟩ = some (.int .i64 ((0 : Nat) : Int)) := by rw [cell_of_row w3 _ _ _ _ (0, 0) h3]; rfl
  have r33 : w3.cell? ⟨W.heap.size + 2, 3, none⟩ = some (.map (some w2.heap.size)) := by rw [cell_of_row w3 _ _ _ _ (0, 0) h3]; rfl
  have r34 : w3.cell? ⟨W.heap.size + 2, 4, none⟩ = some (.slice none 0 0) := by rw [cell_of_row w3 _ _ _ _ (0, 0) h3]; rfl
  have h24 : w4.heap[W.heap.size]? = some (.cells (lgc L.m L.W L.Q 0 0 none 0 0) 60 (0, 0)) := by
    rw [← hw4, Below.heap_alloc _ _ _ (by omega)]
    exact h23
  have HQ4 := Lib.hid (show (_ ∧ _ ∧ _ ∧ _ ∧ _) ∧ w4.cell? ⟨W.heap.size, 0, none⟩ = some (.int .i64 (L.m : Int)) ∧ w4.cell? ⟨W.heap.size, 1, none⟩ = some (.int .i64 (L.W : Int)) ∧ w4.cell? ⟨W.heap.size, 2, none⟩ = some (.int .i64 (L.Q : Int)) ∧ w4.cell? ⟨W.heap.size, 3, none⟩ = some (.int .i64 ((0 : Nat) : Int)) ∧ w4.cell? ⟨W.heap.size, 4, none⟩ = some (.int .i64 ((0 : Nat) : Int)) ∧ w4.cell? ⟨W.heap.size, 5, none⟩ = some (.slice none 0 0) from ⟨HK.out w4 b4, by rw [cell_of_row w4 _ _ _ _ (0, 0) h24]; rfl, by rw [cell_of_row w4 _ _ _ _ (0, 0) h24]; rfl, by rw [cell_of_row w4 _ _ _ _ (0, 0) h24]; rfl, by rw [cell_of_row w4 _ _ _ _ (0, 0) h24]; rfl, by rw [cell_of_row w4 _ _ _ _ (0, 0) h24]; rfl, by rw [cell_of_row w4 _ _ _ _ (0, 0) h24]; rfl⟩)
  simp only [hw2] at LG
  simp only [hw3] at OD
  rw [show w2.heap.size + 1 = W.heap.size + 2 by omega] at OD
  have B0 := HK.out W (Below.refl _ _)
  have B2 := HK.out w2 b2
  have B3 := HK.out w3 b3
  have B4 := HK.out w4 b4
  have H0 := Lib.hid B0
  have H2 := Lib.hid B2
  have H3 := Lib.hid B3
  have H4 := Lib.hid B4
  have HW1 := Lib.hid s3
  unfold cfv
  unfold cfc at hW0 ⊢
  unfold naqc at hw4
  clear hw2 hw3 hM3 hM4 h2 h3 h4 h23 h24 b2 b3 b4 s2 s4 be0 beW hs0 hsW hh0 hhW HS HK hLn hOn okA eA oL oO hM hT hN hZ ODF B0 B2 B3 B4
  rcases hM2 with rfl | rfl
  all_goals
    go_enter Try.func22, Try.ntmps22
    go_wp2_with fail
    refine wp_region_held_drew (S := fun v => v.cell? ⟨w.heap.size, 3, none⟩ = some (.int .i64 c.t1) ∧ v.cell? ⟨w.heap.size, 4, none⟩ = some (.int .i64 c.n2) ∧ v.cell? ⟨w.heap.size, 9, none⟩ = some (.int .i64 c.sz) ∧ v.cell? ⟨w.heap.size, 2, none⟩ = some (.int .i64 c.W) ∧ v.cell? ⟨w.heap.size, 8, none⟩ = some (.int .i64 c.q)) (by kernel_rfl) ?_ (fun hHeld => ?_)
    · rw [hW]; exact H0.out
    rw [hW] at hHeld ⊢
    refine wpAnyH_take (i := 0) (v := ?_) rfl (by kernel_rfl) (by kernel_rfl) (by kernel_rfl) (fun _ _ _ h => h) (Or.inl ⟨by rfl, ?_⟩) (by assumption) ?_
    rotate_left
    · intro v hSw
      (try dsimp only at hSw)
      (try obtain ⟨hSx, hSy⟩ := hSw)
      go_simp
      (try with_reducible rfl)
    (try dsimp only [Act.put])
    (try dsimp only [List.setIfInBounds_toArray])
    (try simp only [List.set_cons_succ])
    (try simp only [List.set_cons_zero])
    refine wpAnyH_take (i := 1) (v := ?_) rfl (by kernel_rfl) (by kernel_rfl) (by kernel_rfl) (fun _ _ _ h => h) (Or.inl ⟨by rfl, ?_⟩) (by assumption) ?_
    rotate_left
    · intro v hSw
      (try dsimp only at hSw)
      (try obtain ⟨hSx, hSy⟩ := hSw)
      go_simp
      (try with_reducible rfl)
    (try dsimp only [Act.put])
    (try dsimp only [List.setIfInBounds_toArray])
    (try simp only [List.set_cons_succ])
    (try simp only [List.set_cons_zero])
    refine wpAnyH_take (i := 2) (v := ?_) rfl (by kernel_rfl) (by kernel_rfl) (by kernel_rfl) (fun _ _ _ h => h) (Or.inl ⟨by rfl, ?_⟩) (by assumption) ?_
    rotate_left
    · intro v hSw
      (try dsimp only at hSw)
      (try obtain ⟨hSx, hSy⟩ := hSw)
      go_simp
      (try with_reducible rfl)
    (try dsimp only [Act.put])
    (try dsimp only [List.setIfInBounds_toArray])
    (try simp only [List.set_cons_succ])
    (try simp only [List.set_cons_zero])
    refine wpAnyH_take (i := 4) (v := ?_) rfl (by kernel_rfl) (by kernel_rfl) (by kernel_rfl) (fun _ _ _ h => h) (Or.inl ⟨by rfl, ?_⟩) (by assumption) ?_
    rotate_left
    · intro v hSw
      (try dsimp only at hSw)
      (try obtain ⟨hSx, hSy⟩ := hSw)
      go_simp
      (try with_reducible rfl)
    (try dsimp only [Act.put])
    (try dsimp only [List.setIfInBounds_toArray])
    (try simp only [List.set_cons_succ])
    (try simp only [List.set_cons_zero])
    refine wpAnyH_take (i := 5) (v := ?_) rfl (by kernel_rfl) (by kernel_rfl) (by kernel_rfl) (fun _ _ _ h => h) (Or.inl ⟨by rfl, ?_⟩) (by assumption) ?_
    rotate_left
    · intro v hSw
      (try dsimp only at hSw)
      (try obtain ⟨hSx, hSy⟩ := hSw)
      go_simp
      (try with_reducible rfl)
    (try dsimp only [Act.put])
    (try dsimp only [List.setIfInBounds_toArray])
    (try simp only [List.set_cons_succ])
    (try simp only [List.set_cons_zero])
    refine wpAnyH_take (i := 7) (v := ?_) rfl (by kernel_rfl) (by kernel_rfl) (by kernel_rfl) (fun _ _ _ h => h) (Or.inl ⟨by rfl, ?_⟩) (by assumption) ?_
    rotate_left
    · intro v hSw
      (try dsimp only at hSw)
      (try obtain ⟨hSx, hSy⟩ := hSw)
      go_simp
      (try with_reducible rfl)
    (try dsimp only [Act.put])
    (try dsimp only [List.setIfInBounds_toArray])
    (try simp only [List.set_cons_succ])
    (try simp only [List.set_cons_zero])
    refine wpAnyH_take (i := 8) (v := ?_) rfl (by kernel_rfl) (by kernel_rfl) (by kernel_rfl) (fun _ _ _ h => h) (Or.inl ⟨by rfl, ?_⟩) (by assumption) ?_
    rotate_left
    · intro v hSw
      (try dsimp only at hSw)
      (try obtain ⟨hSx, hSy⟩ := hSw)
      go_simp
      (try with_reducible rfl)
    (try dsimp only [Act.put])
    (try dsimp only [List.setIfInBounds_toArray])
    (try simp only [List.set_cons_succ])
    (try simp only [List.set_cons_zero])
    refine wpAnyH_take (i := 10) (v := ?_) rfl (by kernel_rfl) (by kernel_rfl) (by kernel_rfl) (fun _ _ _ h => h) (Or.inl ⟨by rfl, ?_⟩) (by assumption) ?_
    rotate_left
    · intro v hSw
      (try dsimp only at hSw)
      (try obtain ⟨hSx, hSy⟩ := hSw)
      go_simp
      (try with_reducible rfl)
    (try dsimp only [Act.put])
    (try dsimp only [List.setIfInBounds_toArray])
    (try simp only [List.set_cons_succ])
    (try simp only [List.set_cons_zero])
    refine wpAnyH_take (i := 11) (v := ?_) rfl (by kernel_rfl) (by kernel_rfl) (by kernel_rfl) (fun _ _ _ h => h) (Or.inl ⟨by rfl, ?_⟩) (by assumption) ?_
    rotate_left
    · intro v hSw
      (try dsimp only at hSw)
      (try obtain ⟨hSx, hSy⟩ := hSw)
      go_simp
      (try with_reducible rfl)
    (try dsimp only [Act.put])
    (try dsimp only [List.setIfInBounds_toArray])
    (try simp only [List.set_cons_succ])
    (try simp only [List.set_cons_zero])
    refine wpAnyH_take (i := 12) (v := ?_) rfl (by kernel_rfl) (by kernel_rfl) (by kernel_rfl) (fun _ _ _ h => h) (Or.inl ⟨by rfl, ?_⟩) (by assumption) ?_
    rotate_left
    · intro v hSw
      (try dsimp only at hSw)
      (try obtain ⟨hSx, hSy⟩ := hSw)
      go_simp
      (try with_reducible rfl)
    (try dsimp only [Act.put])
    (try dsimp only [List.setIfInBounds_toArray])
    (try simp only [List.set_cons_succ])
    (try simp only [List.set_cons_zero])
    refine wpAnyH_take (i := 13) (v := ?_) rfl (by kernel_rfl) (by kernel_rfl) (by kernel_rfl) (fun _ _ _ h => h) (Or.inl ⟨by rfl, ?_⟩) (by assumption) ?_
    rotate_left
    · intro v hSw
      (try dsimp only at hSw)
      (try obtain ⟨hSx, hSy⟩ := hSw)
      go_simp
      (try with_reducible rfl)
    (try dsimp only [Act.put])
    (try dsimp only [List.setIfInBounds_toArray])
    (try simp only [List.set_cons_succ])
    (try simp only [List.set_cons_zero])
    refine wpAnyH_take (i := 14) (v := ?_) rfl (by kernel_rfl) (by kernel_rfl) (by kernel_rfl) (fun _ _ _ h => h) (Or.inl ⟨by rfl, ?_⟩) (by assumption) ?_
    rotate_left
    · intro v hSw
      (try dsimp only at hSw)
      (try obtain ⟨hSx, hSy⟩ := hSw)
      go_simp
      (try with_reducible rfl)
    (try dsimp only [Act.put])
    (try dsimp only [List.setIfInBounds_toArray])
    (try simp only [List.set_cons_succ])
    (try simp only [List.set_cons_zero])
    refine wpAnyH_take (i := 18) (v := ?_) rfl (by kernel_rfl) (by kernel_rfl) (by kernel_rfl) (fun _ _ _ h => h) (Or.inl ⟨by rfl, ?_⟩) (by assumption) ?_
    rotate_left
    · intro v hSw
      (try dsimp only at hSw)
      (try obtain ⟨hSx, hSy⟩ := hSw)
      go_simp
      (try with_reducible rfl)
    (try dsimp only [Act.put])
    (try dsimp only [List.setIfInBounds_toArray])
    (try simp only [List.set_cons_succ])
    (try simp only [List.set_cons_zero])
    refine wpAnyH_take (i := 19) (v := ?_) rfl (by kernel_rfl) (by kernel_rfl) (by kernel_rfl) (fun _ _ _ h => h) (Or.inl ⟨by rfl, ?_⟩) (by assumption) ?_
    rotate_left
    · intro v hSw
      (try dsimp only at hSw)
      (try obtain ⟨hSx, hSy⟩ := hSw)
      go_simp
      (try with_reducible rfl)
    (try dsimp only [Act.put])
    (try dsimp only [List.setIfInBounds_toArray])
    (try simp only [List.set_cons_succ])
    (try simp only [List.set_cons_zero])
    refine wpAnyH_take (i := 20) (v := ?_) rfl (by kernel_rfl) (by kernel_rfl) (by kernel_rfl) (fun _ _ _ h => h) (Or.inl ⟨by rfl, ?_⟩) (by assumption) ?_
    rotate_left
    · intro v hSw
      (try dsimp only at hSw)
      (try obtain ⟨hSx, hSy⟩ := hSw)
      go_simp
      (try with_reducible rfl)
    (try dsimp only [Act.put])
    (try dsimp only [List.setIfInBounds_toArray])
    (try simp only [List.set_cons_succ])
    (try simp only [List.set_cons_zero])
    refine wpAnyH_ready (rs := [3]) (by kernel_rfl) (by simp) ?_
    refine AllReadyH.cons rfl (fun K hK => ?_) AllReadyH.nil
    go_simp
    go_wp2_with (go_at_call 27; (with_reducible refine (L1 _).mono ?_); rintro e w' ⟨rfl, hv⟩; obtain rfl := hv.symm)
    refine hK.out _ _ ?_ (fun hHeld => ?_)
    · exact H0.out
    clear hK K
    refine wpAnyH_ready (rs := [6]) (by kernel_rfl) (by simp) ?_
    refine AllReadyH.cons rfl (fun K hK => ?_) AllReadyH.nil
    go_simp
    go_wp2_with (go_at_call 27; (with_reducible refine (L2 _).mono ?_); rintro e w' ⟨rfl, hv⟩; obtain rfl := hv.symm)
    refine hK.out _ _ ?_ (fun hHeld => ?_)
    · exact H0.out
    clear hK K
    refine wpAnyH_ready (rs := [9]) (by kernel_rfl) (by simp) ?_
    refine AllReadyH.cons rfl (fun K hK => ?_) AllReadyH.nil
    go_simp
    go_wp2_with (go_at_call 27; (with_reducible refine (L3 _).mono ?_); rintro e w' ⟨rfl, hv⟩; obtain rfl := hv.symm)
    refine hK.out _ _ ?_ (fun hHeld => ?_)
    · exact H0.out
    clear hK K
    refine wpAnyH_ready (rs := [15]) (by kernel_rfl) (by simp) ?_
    refine AllReadyH.cons rfl (fun K hK => ?_) AllReadyH.nil
    go_simp
    go_wp2_with (go_at_call 41; (with_reducible refine LG.mono ?_); rintro e w' ⟨rfl, hv⟩; obtain rfl := hv)
    refine hK.out _ _ ?_ (fun hHeld => ?_)
    · exact H2.out
    clear hK K
    refine wpAnyH_weaken (S2 := fun v => (v.cell? ⟨w.heap.size, 3, none⟩ = some (.int .i64 c.t1) ∧ v.cell? ⟨w.heap.size, 4, none⟩ = some (.int .i64 c.n2) ∧ v.cell? ⟨w.heap.size, 9, none⟩ = some (.int .i64 c.sz) ∧ v.cell? ⟨w.heap.size, 2, none⟩ = some (.int .i64 c.W) ∧ v.cell? ⟨w.heap.size, 8, none⟩ = some (.int .i64 c.q)) ∧ v.cell? ⟨W.heap.size, 0, none⟩ = some (.int .i64 (L.m : Int)) ∧ v.cell? ⟨W.heap.size, 1, none⟩ = some (.int .i64 (L.W : Int)) ∧ v.cell? ⟨W.heap.size, 2, none⟩ = some (.int .i64 (L.Q : Int)) ∧ v.cell? ⟨W.heap.size, 3, none⟩ = some (.int .i64 ((0 : Nat) : Int)) ∧ v.cell? ⟨W.heap.size, 4, none⟩ = some (.int .i64 ((0 : Nat) : Int)) ∧ v.cell? ⟨W.heap.size, 5, none⟩ = some (.slice none 0 0)) (fun _ h => h.1) _ _ _ _ ?_
    have hHeld2 := (show (fun v : World => (v.cell? ⟨w.heap.size, 3, none⟩ = some (.int .i64 c.t1) ∧ v.cell? ⟨w.heap.size, 4, none⟩ = some (.int .i64 c.n2) ∧ v.cell? ⟨w.heap.size, 9, none⟩ = some (.int .i64 c.sz) ∧ v.cell? ⟨w.heap.size, 2, none⟩ = some (.int .i64 c.W) ∧ v.cell? ⟨w.heap.size, 8, none⟩ = some (.int .i64 c.q)) ∧ v.cell? ⟨W.heap.size, 0, none⟩ = some (.int .i64 (L.m : Int)) ∧ v.cell? ⟨W.heap.size, 1, none⟩ = some (.int .i64 (L.W : Int)) ∧ v.cell? ⟨W.heap.size, 2, none⟩ = some (.int .i64 (L.Q : Int)) ∧ v.cell? ⟨W.heap.size, 3, none⟩ = some (.int .i64 ((0 : Nat) : Int)) ∧ v.cell? ⟨W.heap.size, 4, none⟩ = some (.int .i64 ((0 : Nat) : Int)) ∧ v.cell? ⟨W.heap.size, 5, none⟩ = some (.slice none 0 0)) w2 from ⟨H2.out, q20, q21, q22, q23, q24, q25⟩)
    refine wpAnyH_take (i := 16) (v := ?_) rfl (by kernel_rfl) (by kernel_rfl) (by kernel_rfl) (fun _ _ _ h => h) (Or.inl ⟨by rfl, ?_⟩) (by assumption) ?_
    rotate_left
    · intro v hSw
      (try dsimp only at hSw)
      (try obtain ⟨hSx, hSy⟩ := hSw)
      go_simp
      (try with_reducible rfl)
    (try dsimp only [Act.put])
    (try dsimp only [List.setIfInBounds_toArray])
    (try simp only [List.set_cons_succ])
    (try simp only [List.set_cons_zero])
    refine wpAnyH_take (i := 17) (v := ?_) rfl (by kernel_rfl) (by kernel_rfl) (by kernel_rfl) (fun _ _ _ h => h) (Or.inl ⟨by rfl, ?_⟩) (by assumption) ?_
    rotate_left
    · intro v hSw
      (try dsimp only at hSw)
      (try obtain ⟨hSx, hSy⟩ := hSw)
      go_simp
      (try with_reducible rfl)
    (try dsimp only [Act.put])
    (try dsimp only [List.setIfInBounds_toArray])
    (try simp only [List.set_cons_succ])
    (try simp only [List.set_cons_zero])
    refine wpAnyH_ready (rs := [21]) (by kernel_rfl) (by simp) ?_
    refine AllReadyH.cons rfl (fun K hK => ?_) AllReadyH.nil
    go_simp
    go_wp2_with (go_at_call 42; (with_reducible refine OD.mono ?_); rintro e w' ⟨rfl, hv⟩; obtain rfl := hv)
    refine hK.out _ _ ?_ (fun hHeld => ?_)
    · exact ⟨H3.out, q30, q31, q32, q33, q34, q35⟩
    clear hK K
    refine wpAnyH_take (i := 22) (v := ?_) rfl (by kernel_rfl) (by kernel_rfl) (by kernel_rfl) (fun _ _ _ h => h) (Or.inl ⟨by rfl, ?_⟩) (by assumption) ?_
    rotate_left
    · intro v hSw
      (try dsimp only at hSw)
      (try obtain ⟨hSx, hSy⟩ := hSw)
      go_simp
      (try with_reducible rfl)
    (try dsimp only [Act.put])
    (try dsimp only [List.setIfInBounds_toArray])
    (try simp only [List.set_cons_succ])
    (try simp only [List.set_cons_zero])
    refine wpAnyH_ready (rs := [23]) (by kernel_rfl) (by simp) ?_
    refine AllReadyH.cons rfl (fun K hK => ?_) AllReadyH.nil
    go_simp
    refine hK.out _ _ ?_ (fun hHeld => ?_)
    · exact ⟨H3.out, q30, q31, q32, q33, q34, q35⟩
    clear hK K
    refine wpAnyH_take (i := 24) (v := ?_) rfl (by kernel_rfl) (by kernel_rfl) (by kernel_rfl) (fun _ _ _ h => h) (Or.inl ⟨by rfl, ?_⟩) (by assumption) ?_
    rotate_left
    · intro v hSw
      (try dsimp only at hSw)
      (try obtain ⟨hSx, hSy⟩ := hSw)
      go_simp
      (try with_reducible rfl)
    (try dsimp only [Act.put])
    (try dsimp only [List.setIfInBounds_toArray])
    (try simp only [List.set_cons_succ])
    (try simp only [List.set_cons_zero])
    refine wpAnyH_ready (rs := [25]) (by kernel_rfl) (by simp) ?_
    refine AllReadyH.cons rfl (fun K hK => ?_) AllReadyH.nil
    go_simp
    refine hK.out _ _ ?_ (fun hHeld => ?_)
    · exact HQ4.out
    clear hK K
    refine wpAnyH_ready (rs := [26]) (by kernel_rfl) (by simp) ?_
    refine AllReadyH.cons rfl (fun K hK => ?_) AllReadyH.nil
    go_simp
    refine hK.out _ _ ?_ (fun hHeld => ?_)
    · exact HQ4.out
    clear hK K
    refine wpAnyH_done (by kernel_rfl) ?_ _
    go_wp2
    go_ret
    exact FI.out
theorem aqNew_calls (c : Cf) (w : World) : Calls Try.prog 22 #[cfv c] w (AqMade c w) := by
  by_cases h : c.md = 32768
  · exact aqNew_mid c w 32768 32768 rfl (by rw [if_pos h]; rfl) (by rw [h]; rfl) (.inr rfl)
  · exact aqNew_mid c w 128 128 rfl (by rw [if_neg h]; rfl) (by simpa using h) (.inl rfl)
end Go.Proofs.Ytgkdabllaankcaa
/- Add of a log of the program. Condition: what is added reads as its octets. -/
namespace Go.Proofs.Ytgkdabllaankcaa
open Go.RowKit
set_option linter.unusedVariables false

section
variable {w : World} {F : Nat → Prop} {b : Nat} {R : Rl} {s : Lg}
/-- a message comes: a new row of octets, its slice appended -/
theorem alAdd_mem (h : AlP w F b R s) (x : List UInt8) (hx : x.length ≤ 1048576) (hf : s.full = false) :
    ∃ A c, w.cell? ⟨b, 11, none⟩ = some (.slice A s.l.length c) ∧ ∀ V1 A1 c1, Below w.heap.size w V1 → Own V1 w.heap.size A1 c1 x →
      V1.cell? ⟨b, 11, none⟩ = some (.slice A s.l.length c) ∧ (V1.alloc (.cells #[.slice A1 x.length c1] 39)).cell? ⟨b, 11, none⟩ = some (.slice A s.l.length c) ∧
        ∃ A3 c3 V3, (∀ ty, (Builtin.append_ #[31, 31] ty #[.slice A s.l.length c, .slice (some ⟨V1.heap.size, 0, none⟩) 1 1]).run Try.prog (V1.alloc (.cells #[.slice A1 x.length c1] 39)) = .ok (.slice A3 (s.l.length + 1) c3) V3) ∧
          V3.cell? ⟨b, 11, none⟩ = some (.slice A s.l.length c) ∧ V3.frozen? ⟨b, 11, none⟩ = false ∧ AlTurn F b R (s.add x) w (V3.setCell ⟨b, 11, none⟩ (.slice A3 (s.l.length + 1) c3)) := by
  have okA := h.2.add hx
  have hll := h.2.len
  have eA : s.add x = ⟨s.m, s.W, s.Q, s.f, s.n, s.l ++ [x]⟩ := by unfold Lg.add; rw [if_neg (by simp [hf])]
  rw [eA] at okA ⊢
  obtain ⟨⟨A, c, vs, h1, h2, h3, h4, h5, h6⟩, ok⟩ := h
  refine ⟨A, c, (alcell h1).2.2.2.2.2, fun V1 A1 c1 b1 own => ?_⟩
  have m1 := Mid.of_own own
  have k1 := fun k hk => (own.blk_ge k hk).1
  have o1 : Only (fun _ => False) w V1 := Only.of_below _ b1
  have hb1 := (b1.block b (lt_of_block h1)).trans h1
  have hv1 := h2.only o1 (fun _ _ h => h)
  have hvl := h3.len
  obtain ⟨A3, c3, V3, r3, m3, on3, kin3⟩ := hv1.app1 etRow (.slice A1 x.length c1) rfl (by omega)
  rw [hvl] at r3
  have hba : ((V1.alloc (.cells #[.slice A1 x.length c1] 39)).heap[b]? : Option Obj) = V1.heap[b]? := Below.heap_alloc _ _ _ (by have := lt_of_block hb1; omega)
  have hb3 := (on3.block b (lt_of_block hb1) (alrow_apart hb1 hv1)).trans hb1
  let F3 : Nat → Prop := more F w V3
  have hs1 := b1.size
  have hs3 := on3.size
  have hlt3 : ∀ k, F3 k → k < V3.heap.size := more_lt h6 (Nat.le_trans hs1 hs3)
  have p1 : Pcs V1 F vs s.l := Pcs.only o1 (fun _ _ _ h => h) (fun _ h => h) h3
  have p3 : Pcs V3 F3 vs s.l := Pcs.only on3 (pcs_off_row hv1) (fun _ h => .inl h) p1
  have q3 : Pc V3 F3 (.slice A1 x.length c1) x := ⟨A1, c1, rfl, m1.only on3 (fun k hk e => by
    obtain ⟨cur, t1⟩ := m1.type k hk
    obtain ⟨cur', t2⟩ := hv1.type k e
    exact types_apart (by decide) t1 t2), fun k hk => .inr ⟨k1 k hk, Nat.lt_of_lt_of_le (m1.blk_lt k hk) hs3⟩⟩
  obtain ⟨f3, raw4, on4⟩ := alraw_setL (F := F3) (l' := s.l ++ [x]) hb3 (.inl h4) hlt3 m3 (fun k hk => (kin3 k hk).elim (fun h => .inl (h5 k h)) (fun h => .inr ⟨Nat.le_trans hs1 h, m3.blk_lt k hk⟩)) (p3.app q3)
  rw [show (s.l ++ [x]).length = s.l.length + 1 by simp] at raw4 on4
  refine ⟨(alcell hb1).2.2.2.2.2, (alcell (hba.trans hb1)).2.2.2.2.2, A3, c3, V3, r3, (alcell hb3).2.2.2.2.2, f3, ⟨⟨?_, okA⟩, ?_⟩⟩
  · have hs4 : (V3.setCell ⟨b, 11, none⟩ (.slice A3 (s.l.length + 1) c3)).heap.size = V3.heap.size := by simp [World.setCell]
    unfold more
    rw [hs4]
    exact raw4
  · have t1 : Only F w V1 := o1.mono (fun _ _ h => h.elim)
    have t3 : Only F w V3 := t1.trans on3 (fun k _ hk => h5 k hk)
    exact t3.trans (only_set V3 ⟨b, 11, none⟩ _) (fun k _ e => by rw [e]; exact h4)
set_option maxRecDepth 20000 in
set_option maxHeartbeats 1000000 in
theorem alAdd_calls (h : AlP w F b R s) (X : Option Addr) (e : Nat) (x : List UInt8) (hr : Rd w X x) (hx : x.length ≤ 1048576) :
    Calls Try.prog 25 #[.pointer (some ⟨b, 6, none⟩), .slice X x.length e] w fun r w' => r = .returned (.int .i64 s.addE) ∧ AlTurn F b R (s.add x) w w' := by
  have ok := h.2
  have hll := ok.len
  have hnl := ok.nl
  have hQ := ok.q9
  have SN := fun q : Nat => alSent_calls (h.drewN q)
  have hw : wrap64 ((s.l.length : Int) - (s.n : Int)) = (s.l.length : Int) - (s.n : Int) := by unfold wrap64; omega
  cases hf : s.full
  · have gf : ¬ (s.Q : Int) ≤ (s.l.length : Int) - (s.n : Int) := by unfold Lg.full at hf; simp at hf; omega
    have HH := Lib.hid (fun q : Nat => alAdd_mem (h.drewN q) x hx hf)
    have CL := fun q : Nat => cloneOwn_calls X e x (w.drewN q) (hr.drewN q) hx
    rw [show s.addE = 0 by unfold Lg.addE; rw [hf]; rfl]
    obtain ⟨⟨A, c, vs, hb, _⟩, _⟩ := h
    obtain ⟨c0, c1, c2, c3, c4, c5⟩ := alcell hb
    clear hb c0 c1 c3 c4 ok hf hr hx
    generalize s.l.length = m at *
    generalize s.n = n at *
    generalize s.Q = R at *
    generalize s.add x = s' at *
    go_enter Try.func25, Try.ntmps25
    go_wp2_with fail
    go_quiet (first | (go_at_call 44; exact Calls.quiet_of (SN _)))
    obtain ⟨A', c', k1, AM⟩ := HH.out (nq + 1)
    have AM' := Lib.hid AM
    have d1 : (w.drewN nq).drew.cell? ⟨b, 11, none⟩ = some (.slice A' m c') := k1
    have CC : Calls Try.prog 45 #[.slice X x.length e] (w.drewN nq).drew (GivesOwn x (w.drewN nq).drew) := CL (nq + 1)
    clear AM HH CL SN c5 c2
    go_wp2_with fail
    go_region_law (first
      | (go_simp; go_at_call 45; refine CC.mono ?_; rintro e9 V1 ⟨A1, c1, rfl, own, bel⟩; obtain ⟨j1, j2, A3, c3, V3, r3, j3, j4, TT⟩ := AM'.out V1 A1 c1 bel own; have FI := Lib.hid TT.from_drewN; clear TT)
      | ((with_reducible refine step_append_run _ ?_ (.tmp 22) (.tmp 25) _ _ ?_ _ _ ?_ ?_ _ _ (r3 _) ?_); rfl; rfl; (focus (first | (simp [Act.eval]; done) | (simp [Act.eval, Act.put]; done))); (focus (first | (simp [Act.eval]; done) | (simp [Act.eval, Act.put]; done)))))
    all_goals
      go_wp2
      go_ret
      exact ⟨rfl, FI.out⟩
  · have gf : (s.Q : Int) ≤ (s.l.length : Int) - (s.n : Int) := by unfold Lg.full at hf; simp at hf; omega
    have FI := Lib.hid (fun n => (AlTurn.refl h).drewN n)
    rw [show s.addE = 6 by unfold Lg.addE; rw [hf]; rfl, show s.add x = s by unfold Lg.add; rw [if_pos hf]]
    obtain ⟨⟨A, c, vs, hb, _⟩, _⟩ := h
    obtain ⟨c0, c1, c2, c3, c4, c5⟩ := alcell hb
    clear hb c0 c1 c3 c4 ok hf hr hx
    generalize s.l.length = m at *
    generalize s.n = n at *
    generalize s.Q = R at *
    go_enter Try.func25, Try.ntmps25
    go_wp2_with fail
    go_quiet (first | (go_at_call 44; exact Calls.quiet_of (SN _)))
    go_wp2
    go_ret
    exact ⟨rfl, FI.out _⟩
end
end Go.Proofs.Ytgkdabllaankcaa
/- Connect, Close, Send, Again, Inds of an end of a session. Condition: room for the outputs and indications. -/
namespace Go.Proofs.Ytgkdabllaankcaa
open Go.RowKit
set_option linter.unusedVariables false

theorem aqTagNext_calls (k : Nat) (w : World) (h2 : k < 65536) :
    Calls Try.prog 43 #[.int .i64 (k : Int), .int .i64 65536] w fun e w' => e = .returned (.int .i64 (((k + 1) % 65536 : Nat) : Int)) ∧ w' = w := by
  refine (serNext_calls k 65536 w (by unfold I64; omega) (by unfold I64; omega)).mono ?_
  rintro e w' ⟨rfl, rfl⟩
  unfold snxt
  rw [slim_mid (by omega) (by omega)]
  refine ⟨ret_int ?_, rfl⟩
  rw [Int.emod_eq_of_lt (a := (k : Int)) (by omega) (by omega), Int.natCast_emod]
  rfl
section
variable {w : World} {F : Nat → Prop} {b : Nat} {s : Aq}
theorem aqAgain_calls (h : AqP w F b s) (hf : s.os.length + s.lg.n ≤ 1000000) : Calls Try.prog 14 #[.pointer (some ⟨b, 0, none⟩)] w fun r w' => r = .returned (.tuple #[]) ∧ AqTurn F b s.again w w' := by
  have c4 := h.c4
  have RC := aqRetr_calls h hf
  have TR := Lib.hid (AqTurn.refl h)
  by_cases hs : s.st = 2
  · have es : s.again = s.retr := by unfold Aq.again; rw [if_pos hs]
    rw [es]
    rw [hs] at c4
    clear h hf hs es
    go_enter Try.func14, Try.ntmps14
    go_wp2_with fail
    refine RC.mono ?_
    rintro e w2 ⟨rfl, T⟩
    have FI := Lib.hid T
    clear T RC
    go_wp2
    go_end0
    exact ⟨rfl, FI.out⟩
  · have es : s.again = s := by unfold Aq.again; rw [if_neg hs]
    rw [es]
    have g : ((s.st : Int) == 2) = false := beq_eq_false_iff_ne.2 (by omega)
    clear h hf hs es RC
    generalize s.st = n at *
    go_enter Try.func14, Try.ntmps14
    go_wp2
    go_end0
    exact ⟨rfl, TR.out⟩
set_option maxRecDepth 20000 in
set_option maxHeartbeats 1000000 in
theorem aqConnect_calls (h : AqP w F b s) (hf : s.os.length ≤ 1000000) : Calls Try.prog 23 #[.pointer (some ⟨b, 0, none⟩)] w fun r w' => r = .returned (.int .i64 s.connectE) ∧ AqTurn F b s.connect w w' := by
  have c4 := h.c4
  have c5 := h.c5
  have c18 := h.c18
  have z4 := h.z 4
  have z5 := h.z 5
  have z18 := h.z 18
  have TR := Lib.hid (AqTurn.refl h)
  by_cases hs : s.st = 0
  · have es : s.connect = (({ s with tg := (s.tg + 1) % 65536, st := 1, tr := 0 } : Aq).send 3 true).start := by unfold Aq.connect; rw [if_pos hs]
    have ee : s.connectE = 0 := by unfold Aq.connectE; rw [if_pos hs]
    rw [es, ee]
    rw [hs] at c4
    have NX := fun v => aqTagNext_calls s.tg v h.2.tgb
    obtain ⟨W1, hW⟩ : ∃ W1, ((w.setCell ⟨b, 5, none⟩ (.int .i64 (((s.tg + 1) % 65536 : Nat) : Int))).setCell ⟨b, 4, none⟩ (.int .i64 1)).setCell ⟨b, 18, none⟩ (.int .i64 0) = W1 := ⟨_, rfl⟩
    have T1 : AqTurn F b ({ s with tg := (s.tg + 1) % 65536, st := 1, tr := 0 } : Aq) w W1 := by
      rw [← hW]
      exact ((h.setTg (n := (s.tg + 1) % 65536) (Nat.mod_lt _ (by decide))).thenSt (n := 1) (by omega)).thenTr 0
    have SC := aqSend_calls T1.1 hf 3 true
    have HT1 := Lib.hid T1
    clear T1 h hf hs es ee TR
    generalize ({ s with tg := (s.tg + 1) % 65536, st := 1, tr := 0 } : Aq) = s1 at *
    generalize (s.tg + 1) % 65536 = t' at *
    generalize s.tg = t at *
    generalize s.tr = r at *
    go_enter Try.func23, Try.ntmps23
    go_wp2_with fail
    refine (NX _).mono ?_
    rintro e w' ⟨rfl, rfl⟩
    go_wp2_with fail
    refine SC.mono ?_
    rintro e w2 ⟨rfl, T2⟩
    have T3 := HT1.out.trans T2
    have ST := aqStart_calls T3.1
    have HT3 := Lib.hid T3
    clear T2 T3 SC NX
    go_wp2_with fail
    refine ST.mono ?_
    rintro e w3 ⟨rfl, T4⟩
    have FI := Lib.hid (HT3.out.trans T4)
    clear T4 ST
    go_wp2
    go_ret
    exact ⟨rfl, FI.out⟩
  · have es : s.connect = s := by unfold Aq.connect; rw [if_neg hs]
    have ee : s.connectE = 8 := by unfold Aq.connectE; rw [if_neg hs]
    rw [es, ee]
    have g : ((s.st : Int) != 0) = true := by simp; omega
    clear h hf hs es ee
    generalize s.st = n at *
    go_enter Try.func23, Try.ntmps23
    go_wp2
    go_ret
    exact ⟨rfl, TR.out⟩
set_option maxRecDepth 20000 in
set_option maxHeartbeats 1000000 in
theorem aqClose_calls (h : AqP w F b s) (hf : s.os.length ≤ 1000000) (hlo : s.lo ≤ 1000000000000) : Calls Try.prog 19 #[.pointer (some ⟨b, 0, none⟩)] w fun r w' => r = .returned (.int .i64 s.closeE) ∧ AqTurn F b s.close w w' := by
  have c4 := h.c4
  have TR := Lib.hid (AqTurn.refl h)
  by_cases hs : s.st = 0 ∨ s.st = 3
  · have es : s.close = s := by unfold Aq.close; rw [if_pos hs]
    have ee : s.closeE = 7 := by unfold Aq.closeE; rw [if_pos hs]
    rw [es, ee]
    clear h hf es ee hlo
    generalize s.st = n at *
    rcases hs with rfl | rfl
    all_goals
      go_enter Try.func19, Try.ntmps19
      go_wp2
      go_ret
      exact ⟨rfl, TR.out⟩
  · have es : s.close = ((s.clear.setSt 3).send 5 true).start := by unfold Aq.close; rw [if_neg hs]
    have ee : s.closeE = 0 := by unfold Aq.closeE; rw [if_neg hs]
    rw [es, ee]
    have g0 : ((s.st : Int) == 0) = false := beq_eq_false_iff_ne.2 (by omega)
    have g3 : ((s.st : Int) == 3) = false := beq_eq_false_iff_ne.2 (by omega)
    have CL := aqClear_calls h hlo
    have HF := Lib.hid hf
    clear h hf hs es ee TR hlo
    generalize s.st = n at *
    go_enter Try.func19, Try.ntmps19
    go_wp2_with fail
    refine CL.mono ?_
    rintro e w1 ⟨rfl, T⟩
    obtain ⟨W2, hW2⟩ : ∃ W2, w1.setCell ⟨b, 4, none⟩ (.int .i64 3) = W2 := ⟨_, rfl⟩
    have T2 : AqTurn F b (s.clear.setSt 3) w W2 := by rw [← hW2]; exact T.thenSt (n := 3) (by omega)
    have SC := aqSend_calls T2.1 HF.out 5 true
    have HT2 := Lib.hid T2
    have d4 := T.1.c4
    have z4 := T.1.z 4
    clear T T2 CL
    generalize s.clear.st = n' at *
    go_wp2_with fail
    refine SC.mono ?_
    rintro e w3 ⟨rfl, T3⟩
    have T4 := HT2.out.trans T3
    have ST := aqStart_calls T4.1
    have HT4 := Lib.hid T4
    clear T3 T4 SC HT2
    go_wp2_with fail
    refine ST.mono ?_
    rintro e w5 ⟨rfl, T5⟩
    have FI := Lib.hid (HT4.out.trans T5)
    clear T5 ST
    go_wp2
    go_ret
    exact ⟨rfl, FI.out⟩
end
end Go.Proofs.Ytgkdabllaankcaa
/- Take of an order of the program. No condition. -/
namespace Go.Proofs.Ytgkdabllaankcaa
open Go.RowKit
set_option linter.unusedVariables false

section
variable {w w' : World} {F G : Nat → Prop} {b m W e : Nat} {R : Ro} {l : List (Int × List UInt8)} {r : List (List UInt8)} {x : List UInt8} {s : Od}
/-- a slice of bytes reads as it did where a slice's cell has turned -/
theorem rd_set {p : Addr} {u : Value} {A : Option Addr} {n c : Nat} (hp : w.cell? p = some (.slice A n c)) {X : Option Addr} {z : List UInt8} (h : Rd w X z) : Rd (w.setCell p u) X z := fun hz => by
  obtain ⟨b, off, e, hc⟩ := h hz
  refine ⟨b, off, e, fun j hj => ?_⟩
  have h1 := hc j hj
  rw [World.cell?_setCell_other _ _ _ _ (by intro e2; rw [← e2, hp] at h1; cases h1)]
  exact h1
/-- the first that is ready goes -/
theorem ao_pop (h : AoRaw w F b R m W e l (x :: r)) : ∃ g off c B d, w.cell? ⟨b, 16, none⟩ = some (.slice (some ⟨g, off, none⟩) (r.length + 1) c) ∧ w.cell? ⟨g, off, none⟩ = some (.slice B x.length d) ∧ w.frozen? ⟨g, off, none⟩ = false ∧ r.length + 1 ≤ c ∧ c ≤ maxLen ∧
    ∃ V1, w.setCell ⟨g, off, none⟩ (.slice none 0 0) = V1 ∧ V1.cell? ⟨b, 16, none⟩ = some (.slice (some ⟨g, off, none⟩) (r.length + 1) c) ∧ V1.frozen? ⟨b, 16, none⟩ = false ∧
      ∀ C, C = (if c = 1 then some ⟨g, off, none⟩ else some ⟨g, off + 1, none⟩) → AoRaw (V1.setCell ⟨b, 16, none⟩ (.slice C r.length (c - 1))) F b R m W e l r ∧ Only F w (V1.setCell ⟨b, 16, none⟩ (.slice C r.length (c - 1))) ∧ Rd (V1.setCell ⟨b, 16, none⟩ (.slice C r.length (c - 1))) B x ∧ ∀ X z, Rd w X z → Rd (V1.setCell ⟨b, 16, none⟩ (.slice C r.length (c - 1))) X z := by
  obtain ⟨B, V, A, c, vs, h1, ⟨hM, hK⟩, ⟨h4, h5⟩, h6, h7, h8, h9⟩ := h
  obtain ⟨v, us, rfl, hv, hus⟩ := h5.cons_inv
  obtain ⟨C, d, rfl, hmC, hFC⟩ := hv
  have hul := hus.len
  have hlc := h4.1
  simp at hlc
  obtain ⟨g, off, rfl, k0, hfz, hset⟩ := h4.first
  have hlc2 := h4.2.1
  have hty := h4.type g rfl
  have on1 := only_set w ⟨g, off, none⟩ (.slice none 0 0)
  have hgb : ¬ b = g := fun e => by
    obtain ⟨cur, t⟩ := hty
    rw [← e] at t
    exact types_apart (by decide) t h1
  have hgB : ¬ B = g := fun e => by
    obtain ⟨cur, t⟩ := hty
    rw [← e] at t
    exact hM.notCells t
  have hgu : ∀ k, (∃ cur, w.heap[k]? = some (.cells cur 5 (0, 0))) → ¬ k = g := fun k hk e => by
    obtain ⟨cur, t⟩ := hk
    obtain ⟨cur', t'⟩ := hty
    rw [e] at t
    exact types_apart (by decide) t t'
  have hb1 := (on1.block b (lt_of_block h1) hgb).trans h1
  have h8' : F g := h8 g rfl
  refine ⟨g, off, c, C, d, (aocell h1).2.2.2.2, k0, hfz, by omega, hlc2, _, rfl, (aocell hb1).2.2.2.2, frozen_of_row _ b 16 _ _ hb1, fun C' hC' => ?_⟩
  obtain ⟨g', off', e', k1, k2, m0, m1⟩ := (hset (.slice none 0 0)).rest
  injection e' with e'
  injection e' with e1 e2
  subst e1 e2
  have hm' : MidV 39 (w.setCell ⟨g, off, none⟩ (.slice none 0 0)) C' (c - 1) us := by
    rw [hC']
    split
    · next e => have := m0 e; rw [e]; exact this
    · exact m1
  have hF' : ∀ k, blk C' = some k → F k := fun k hk => by
    rw [hC'] at hk
    split at hk <;> (injection hk with hk; exact (show g = k from hk) ▸ h8')
  obtain ⟨z, raw, on2⟩ := ao_set (F := F) (m := m) (W := W) (e := e) (l := l) (r := r) hb1 4 (.slice C' r.length (c - 1)) (by simp [aoc]) (hM.only on1 hgB) (Kp.only on1 (fun k _ hk => hgu k hk) (fun _ h => h) hK) hm' (Pcs.only on1 (fun k _ hk => hgu k hk) (fun _ h => h) hus) h6 h7 hF' (fun k hk => Nat.lt_of_lt_of_le (h9 k hk) on1.size)
  have hm1 : Mid (w.setCell ⟨g, off, none⟩ (.slice none 0 0)) C d x := hmC.only on1 (fun k hk => hgu k (hmC.type k hk))
  exact ⟨raw, (on1.mono (fun k _ e => by rw [e]; exact h8')).trans on2 (fun _ _ h => h), (hm1.only (only_set _ ⟨b, 16, none⟩ _) (fun k hk => ao_off (F := F) hb1 (by decide) k (hFC k hk) (hm1.type k hk))).rd, fun X z hX => rd_set (aocell hb1).2.2.2.2 (rd_set k0 hX)⟩
/-- what Take returns, and what it leaves -/
def AoTook (F : Nat → Prop) (b : Nat) (R : Ro) (s : Od) (w : World) (e : Ending) (w' : World) : Prop :=
  ∃ A c, e = .returned (.tuple #[.slice A s.takeX.length c, .bool s.takeB]) ∧ Rd w' A s.takeX ∧ AoP w' F b R s.take ∧ Only F w w' ∧ ∀ X z, Rd w X z → Rd w' X z
set_option maxHeartbeats 400000 in
theorem aoTake_calls (h : AoP w F b R s) : Calls Try.prog 52 #[.pointer (some ⟨b, 12, none⟩)] w (AoTook F b R s w) := by
  have ok := h.2
  have okT := Lib.hid ok.take
  obtain ⟨m, W, e, l, r⟩ := s
  cases r with
  | nil =>
    have FI := Lib.hid (show AoTook F b R ⟨m, W, e, l, []⟩ w (.returned (.tuple #[.slice none 0 0, .bool false])) w from ⟨none, 0, rfl, (Mid.nil w).rd, h, Only.refl _ _, fun _ _ h => h⟩)
    obtain ⟨⟨B, V, A, c, vs, h1, _⟩, _⟩ := h
    obtain ⟨c0, c1, c2, c3, c4⟩ := aocell h1
    simp only [List.length_nil] at c4
    clear h1 ok okT c0 c1 c2 c3
    go_enter Try.func52, Try.ntmps52
    go_wp2
    go_ret2
    exact FI.out
  | cons x r =>
    obtain ⟨g, off, c, C, d, k4, k0, z0, hc1, hc2, V1, hV1, j4, z4, FIN⟩ := ao_pop h.1
    unfold maxLen at hc2
    have FI := Lib.hid (show ∀ C', C' = (if c = 1 then some ⟨g, off, none⟩ else some ⟨g, off + 1, none⟩) → AoTook F b R ⟨m, W, e, l, x :: r⟩ w (.returned (.tuple #[.slice C x.length d, .bool true])) (V1.setCell ⟨b, 16, none⟩ (.slice C' r.length (c - 1))) from fun C' hC' => by
      obtain ⟨raw, on, rd, kp⟩ := FIN C' hC'
      exact ⟨C, d, by simp [Od.takeX, Od.takeB], by simpa [Od.takeX] using rd, ⟨raw, okT.out⟩, on, kp⟩)
    have g1 : (((r.length + 1 : Nat) : Int) == 0) = false := beq_eq_false_iff_ne.2 (by omega)
    clear FIN h ok okT
    generalize r.length = n at *
    generalize x.length = p at *
    have hcz : (1 : Int) ≤ (c : Int) := by omega
    by_cases hc : c = 1
    · subst hc
      have hn : n = 0 := by omega
      subst hn
      have FJ := Lib.hid (FI.out _ rfl)
      simp only [if_true] at FJ
      clear FI
      go_enter Try.func52, Try.ntmps52
      go_wp2
      go_ret2
      exact FJ.out
    · have FJ := Lib.hid (FI.out _ rfl)
      simp only [hc, if_false] at FJ
      clear FI
      go_enter Try.func52, Try.ntmps52
      go_wp2
      go_ret2
      exact FJ.out
end
end Go.Proofs.Ytgkdabllaankcaa

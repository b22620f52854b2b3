/- One end of a session and what a law keeps beside it; shape, num. No condition. -/
import Derived.Test.YtdidmpimlodffaaG11
import Derived.Test.YtdidmpimlodffaaG12
namespace Go.Proofs.Ytdidmpimlodffaa
open Go.RowKit
set_option linter.unusedVariables false

/-- The end at b is in the state s; its memory is new and none of what the law keeps (H); what was there before stands. -/
def AqOne (H : Nat → Prop) (w v : World) (b : Nat) (s : Aq) : Prop := ∃ F, AqP v F b s ∧ (∀ k, F k → w.heap.size ≤ k ∧ ¬ H k) ∧ Below w.heap.size w v ∧ ∀ k, H k → k < v.heap.size
/-- what a call of the end's leaves of the law's own -/
def Kept (H : Nat → Prop) (v v' : World) : Prop := ∃ F, Only F v v' ∧ (∀ k, F k → ¬ H k) ∧ v.heap.size ≤ v'.heap.size
section
variable {w v v' : World} {H G : Nat → Prop} {b : Nat} {s s' : Aq}
theorem AqOne.bel (h : AqOne H w v b s) : Below w.heap.size w v := by obtain ⟨F, h⟩ := h; exact h.2.2.1
theorem AqOne.ok (h : AqOne H w v b s) : s.Ok := by obtain ⟨F, h⟩ := h; exact h.1.2
theorem AqOne.turn (h : AqOne H w v b s) (hT : ∀ F, AqP v F b s → AqTurn F b s' v v') : AqOne H w v' b s' ∧ Kept H v v' := by
  obtain ⟨F, h1, h2, h3, h4⟩ := h
  have T := hT F h1
  have hs := T.on.size
  have hvs := h3.size
  refine ⟨⟨more F v v', T.st, fun k hk => ?_, h3.trans (T.on.below (fun k hk => (h2 k hk).1) hvs), fun k hk => Nat.lt_of_lt_of_le (h4 k hk) hs⟩, F, T.on, fun k hk => (h2 k hk).2, hs⟩
  rcases hk with hk | ⟨hk, _⟩
  · exact h2 k hk
  · exact ⟨Nat.le_trans hvs hk, fun hH => by have := h4 k hH; omega⟩
theorem AqOne.beside (h : AqOne H w v b s) (hb : Below v.heap.size v v') : AqOne H w v' b s := by
  obtain ⟨F, h1, h2, h3, h4⟩ := h
  exact ⟨F, h1.below hb, h2, h3.trans (hb.mono h3.size), fun k hk => Nat.lt_of_lt_of_le (h4 k hk) hb.size⟩
theorem AqOne.drewN (h : AqOne H w v b s) (n : Nat) : AqOne H w (v.drewN n) b s := h.beside ⟨rfl, rfl, rfl, Nat.le_refl _, fun _ _ => rfl⟩
/-- a call by its contract -/
theorem AqOne.call {f : Nat} {args : Array Value} {r : Ending} (h : AqOne H w v b s) (hc : ∀ F, AqP v F b s → (∀ k, F k → ¬ H k) → Calls Try.prog f args v fun e v' => e = r ∧ AqTurn F b s' v v') :
    Calls Try.prog f args v fun e v' => e = r ∧ AqOne H w v' b s' ∧ Kept H v v' := by
  have h0 := h
  obtain ⟨F, h1, h2, h3, h4⟩ := h
  refine (hc F h1 (fun k hk => (h2 k hk).2)).mono ?_
  rintro e v' ⟨rfl, T⟩
  refine ⟨rfl, ?_⟩
  have hs := T.on.size
  have hvs := h3.size
  refine ⟨⟨more F v v', T.st, fun k hk => ?_, h3.trans (T.on.below (fun k hk => (h2 k hk).1) hvs), fun k hk => Nat.lt_of_lt_of_le (h4 k hk) hs⟩, F, T.on, fun k hk => (h2 k hk).2, hs⟩
  rcases hk with hk | ⟨hk, _⟩
  · exact h2 k hk
  · exact ⟨Nat.le_trans hvs hk, fun hH => by have := h4 k hH; omega⟩
theorem AqOne.state (h : AqOne H w v b s) : Calls Try.prog 18 #[.pointer (some ⟨b, 0, none⟩)] v fun e v' => e = .returned (.int .i64 (s.st : Int)) ∧ v' = v := by
  obtain ⟨F, h1, _⟩ := h
  exact aqState_calls h1
theorem AqOne.connect (h : AqOne H w v b s) (hf : s.os.length ≤ 1000000) : Calls Try.prog 29 #[.pointer (some ⟨b, 0, none⟩)] v fun e v' => e = .returned (.int .i64 s.connectE) ∧ AqOne H w v' b s.connect ∧ Kept H v v' := h.call fun F hp _ => aqConnect_calls hp hf
/-- Output: the row is the law's own from here on -/
theorem AqOne.output (h : AqOne H w v b s) : Calls Try.prog 27 #[.pointer (some ⟨b, 0, none⟩)] v fun e v' => ∃ A c G, e = .returned (.slice A s.os.length c) ∧ RowP v' G A c s.os ∧ AqOne (fun k => H k ∨ G k) w v' b s.output ∧ Kept H v v' ∧ (∀ k, G k → w.heap.size ≤ k ∧ ¬ H k) := by
  obtain ⟨F, h1, h2, h3, h4⟩ := h
  refine (aqOutput_calls h1).mono ?_
  rintro e v' ⟨A, c, G, F', rfl, row, hp, hG, hF', hd, on⟩
  have hs := on.size
  have hvs := h3.size
  exact ⟨A, c, G, rfl, row, ⟨F', hp, fun k hk => ⟨(h2 k (hF' k hk)).1, fun h => h.elim (h2 k (hF' k hk)).2 (hd k hk)⟩, h3.trans (on.below (fun k hk => (h2 k hk).1) hvs), fun k hk => hk.elim (fun h => Nat.lt_of_lt_of_le (h4 k h) hs) (fun h => Nat.lt_of_lt_of_le (h1.lt k (hG k h)) hs)⟩, ⟨F, on, fun k hk => (h2 k hk).2, hs⟩, fun k hk => h2 k (hG k hk)⟩
/-- a new one -/
theorem AqOne.made {c : Cf} {e : Ending} (hm : AqMade c v e v') (bel : Below w.heap.size w v) (hH : ∀ k, H k → k < v.heap.size) : ∃ b, e = .returned (.pointer (some ⟨b, 0, none⟩)) ∧ AqOne H w v' b (Aq.newC c) ∧ Below v.heap.size v v' := by
  obtain ⟨b, F, rfl, hp, hF, hb⟩ := hm
  exact ⟨b, rfl, ⟨F, hp, fun k hk => ⟨Nat.le_trans bel.size (hF k hk), fun h => by have := hH k h; have := hF k hk; omega⟩, bel.trans (hb.mono bel.size), fun k hk => Nat.lt_of_lt_of_le (hH k hk) hb.size⟩, hb⟩
theorem Kept.of_below (h : Below v.heap.size v v') : Kept H v v' := ⟨fun _ => False, Only.of_below _ h, fun _ h => h.elim, h.size⟩
theorem Kept.row {A : Option Addr} {c : Nat} {l : List (List UInt8)} (k : Kept H v v') (h : RowP v H A c l) : RowP v' H A c l := by
  obtain ⟨F, on, hd, _⟩ := k
  obtain ⟨vs, h1, h2, h3⟩ := h
  exact ⟨vs, h1.only on (fun k hk hF => hd k hF (h3 k hk)), Pcs.only on (fun k hk _ hF => hd k hF hk) (fun _ h => h) h2, h3⟩
theorem RowP.wide {A : Option Addr} {c : Nat} {l : List (List UInt8)} (h : RowP v G A c l) (hG : ∀ k, G k → H k) : RowP v H A c l := by
  obtain ⟨vs, h1, h2, h3⟩ := h
  exact ⟨vs, h1, Pcs.only (G := fun _ => False) (Only.refl _ _) (fun _ _ _ h => h) hG h2, fun k hk => hG k (h3 k hk)⟩
/-- the i-th piece of a row in memory -/
theorem RowP.at_ {A : Option Addr} {c : Nat} {l : List (List UInt8)} (h : RowP v G A c l) {i : Nat} (hi : i < l.length) : ∃ g off B d, A = some ⟨g, off, none⟩ ∧ v.cell? ⟨g, off + i, none⟩ = some (.slice B (l.getD i []).length d) ∧ Rd v B (l.getD i []) ∧ Mid v B d (l.getD i []) ∧ (∀ k, blk B = some k → G k) ∧ G g := by
  obtain ⟨vs, h1, h2, h3⟩ := h
  obtain ⟨B, d, hv, hm, hF⟩ := h2.at_ hi
  obtain ⟨g, off, rfl, hc⟩ := h1.at_ hv
  exact ⟨g, off, B, d, rfl, hc, hm.rd, hm, hF, h3 g rfl⟩
end
theorem num_calls (n : Int) (w : World) : Calls Try.prog 20 #[.int .i64 n] w fun e w' => e = .returned (.int .i64 n) ∧ w' = w := by
  go_enter Try.func20, Try.ntmps20
  go_wp2
  go_ret
  exact ⟨rfl, rfl⟩
/-- the configuration of a law's -/
def shapeC (m W Q : Int) : Cf := ⟨0, m, W, 10, 3, 0, 0, 0, Q, 50, 0, 0, 0, 0, false, false⟩
theorem shape_calls (m W Q : Int) (w : World) : Calls Try.prog 16 #[.int .i64 m, .int .i64 W, .int .i64 Q] w fun e w' => e = .returned (cfv (shapeC m W Q)) ∧ Below w.heap.size w w' := by
  unfold cfv cfc shapeC
  go_enter Try.func16, Try.ntmps16
  go_wp2
  refine bodyPost_ret (v := .agg #[.int .i64 0, .int .i64 m, .int .i64 W, .int .i64 10, .int .i64 3, .int .i64 0, .int .i64 0, .int .i64 0, .int .i64 Q, .int .i64 50, .int .i64 0, .int .i64 0, .int .i64 0, .int .i64 0, .bool false, .bool false]) (by simp [results, Try.results16, go_sem]) rfl ⟨rfl, (Below.refl _ _).alloc (Nat.le_refl _) _⟩
theorem alive_os : ((Aq.newC (shapeC 128 4 4)).connect.os = [[0, 1, 127]] ∧ (Aq.newC (shapeC 128 4 4)).connect.st = 1) ∧ (Aq.newC (shapeC 128 4 4)).connectE = 0 := by decide +kernel
set_option maxRecDepth 20000 in
set_option maxHeartbeats 1000000 in
theorem alive_calls (w : World) : Calls Try.prog 15 #[] w fun e w' => e = .returned (.bool true) ∧ Below w.heap.size w w' := by
  obtain ⟨⟨a1, a2⟩, a3⟩ := alive_os
  have SC := shape_calls 128 4 4 w
  have NM := fun v => num_calls 0 v
  have NC := fun v => aqNew_calls (shapeC 128 4 4) v
  have CN := Lib.hid (show ∀ v b, AqOne (fun _ => False) w v b (Aq.newC (shapeC 128 4 4)) → Calls Try.prog 29 #[.pointer (some ⟨b, 0, none⟩)] v fun e v' => e = .returned (.int .i64 0) ∧ AqOne (fun _ => False) w v' b (Aq.newC (shapeC 128 4 4)).connect from fun v b h => (h.connect (by decide)).mono (by rintro e v' ⟨rfl, h1, _⟩; exact ⟨by rw [a3], h1⟩))
  unfold cfv at SC NC
  generalize (.agg (cfc (shapeC 128 4 4)) : Value) = CV at *
  obtain ⟨S0, hS0⟩ : ∃ S0, Aq.newC (shapeC 128 4 4) = S0 := ⟨_, rfl⟩
  rw [hS0] at CN a1 a2 a3
  have HS0 := Lib.hid hS0
  clear hS0
  generalize S0.connect = S1 at *
  go_enter Try.func15, Try.ntmps15
  go_wp2_with fail
  refine SC.mono ?_
  rintro e w1 ⟨rfl, be1⟩
  have HB1 := Lib.hid be1
  clear be1 SC
  go_wp2_with fail
  refine (NC w1).mono ?_
  rintro e w2 hm
  obtain ⟨b, rfl, h2, _⟩ := AqOne.made (H := fun _ => False) hm HB1.out (fun _ h => h.elim)
  rw [HS0.out] at h2
  have CC := CN.out w2 b h2
  clear hm h2 NC CN
  go_wp2_with fail
  refine CC.mono ?_
  rintro e w3 ⟨rfl, h3⟩
  have OC := h3.output
  rw [a1] at OC
  clear h3 CC
  go_wp2_with fail
  refine OC.mono ?_
  rintro e w4 ⟨A, c, G, rfl, row, h4, _, _⟩
  obtain ⟨g, off, B, d, rfl, k0, rd, _⟩ := row.at_ (i := 0) (by decide)
  rw [show ([[0, 1, 127]] : List (List UInt8)).getD 0 [] = [0, 1, 127] from rfl] at k0 rd
  have k0' : w4.cell? ⟨g, off, none⟩ = some (.slice B 3 d) := k0
  have q4 : (convert 39 9 (.slice B 3 d)).run Try.prog w4 = .ok (.string ⟨#[0, 1, 127]⟩) w4 := run_conv w4 B d [0, 1, 127] rd
  clear k0
  have ST := h4.state
  rw [show (S1.output).st = S1.st from rfl, a2] at ST
  have FI := Lib.hid h4.bel
  clear row h4 OC rd
  go_wp2_with fail
  refine (NM _).mono ?_
  rintro e w5 ⟨rfl, hv⟩
  obtain rfl := hv.symm
  go_wp2_with fail
  refine ST.mono ?_
  rintro e w6 ⟨rfl, hv⟩
  obtain rfl := hv.symm
  go_wp2
  go_ret
  exact ⟨rfl, FI.out⟩
end Go.Proofs.Ytdidmpimlodffaa

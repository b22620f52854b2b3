/- Ack and Body of a log of the reference. Condition: the number is one of 64 bits. -/
import Derived.Test.YteofffnfafhgfaaRlNext
import Derived.Deep.LoopGhost
namespace Go.Proofs.Yteofffnfafhgfaa
open Go.RowKit
set_option linter.unusedVariables false

namespace Lg
/-- the i-th number -/
def num (s : Lg) (i : Nat) : Nat := (s.f + i) % s.m
theorem num_n (s : Lg) : s.num s.n = s.nx := rfl
theorem hit_at {s : Lg} (h : s.Ok) {i : Nat} (hi : i ≤ s.n) : s.num i < s.m ∧ s.ds (s.num i) = i ∧ s.hit (s.num i : Int) = true ∧ s.ackN (s.num i : Int) = i := by
  have h1 := n_lt h
  have hj : s.num i < s.m := Nat.mod_lt _ (by omega)
  have hd : s.ds (s.num i) = i := (num_ds h (by omega) hj).1 rfl
  have hh : s.hit (s.num i : Int) = true := by rw [hit_nat hj, hd]; exact decide_eq_true hi
  exact ⟨hj, hd, hh, by unfold ackN; rw [hh, Int.toNat_natCast, hd]; rfl⟩
theorem hit_none {s : Lg} (h : s.Ok) {k : Int} (hk : ∀ j, j ≤ s.n → k ≠ (s.num j : Int)) : s.hit k = false ∧ s.ackN k = 0 ∧ s.ack k = s := by
  have hh : s.hit k = false := by
    cases hh : s.hit k
    · rfl
    · obtain ⟨j, rfl, hj, hdj⟩ := hit_true hh
      have := (num_ds h (ds_lt h j) hj).2 rfl
      exact absurd (by unfold num; rw [this]) (hk (s.ds j) hdj)
  exact ⟨hh, by unfold ackN; rw [hh]; rfl, by unfold ack; rw [hh]; rfl⟩
theorem has_at {s : Lg} (h : s.Ok) {i : Nat} (hi : i < s.n) : s.has (s.num i : Int) = true ∧ s.body (s.num i : Int) = s.l.getD i [] := by
  obtain ⟨hj, hd, _⟩ := hit_at h (Nat.le_of_lt hi)
  have hh : s.has (s.num i : Int) = true := by rw [has_nat hj, hd]; exact decide_eq_true hi
  exact ⟨hh, by unfold body; rw [hh, Int.toNat_natCast, hd]; rfl⟩
theorem has_none {s : Lg} (h : s.Ok) {k : Int} (hk : ∀ j, j < s.n → k ≠ (s.num j : Int)) : s.has k = false ∧ s.body k = [] := by
  have hh : s.has k = false := by
    cases hh : s.has k
    · rfl
    · have hd : s.isN k = true ∧ s.ds k.toNat < s.n := by unfold has at hh; simpa using hh
      have hn := hd.1
      unfold isN at hn
      simp at hn
      obtain ⟨j, rfl⟩ : ∃ j : Nat, k = j := ⟨k.toNat, by omega⟩
      rw [Int.toNat_natCast] at hd
      have := (num_ds h (ds_lt h j) (by omega)).2 rfl
      exact absurd (by unfold num; rw [this]) (hk (s.ds j) hd.2)
  exact ⟨hh, by unfold body; rw [hh]; rfl⟩
end Lg
section
variable {w : World} {F : Nat → Prop} {b m W Q x : Nat} {o : List (Int × List UInt8)} {t : List (List UInt8)} {s : Lg}
/-- what the messages that are out look like in memory -/
theorem rl_out (h : RlRaw w F b m W Q x o t) : ∃ A c, w.cell? ⟨b, 4, none⟩ = some (.slice A o.length c) ∧ w.cell? ⟨b, 3, none⟩ = some (.int .i64 (x : Int)) ∧ o.length ≤ c ∧ c ≤ maxLen ∧ ((A = none ∧ o.length = 0 ∧ c = 0) ∨ ∃ g off, A = some ⟨g, off, none⟩ ∧ g < w.heap.size ∧
    ∀ i, i < o.length → w.cell? ⟨g, off + i * 2, none⟩ = some (.int .i64 (o.getD i (0, [])).1) ∧ ∃ B d, w.cell? ⟨g, off + i * 2 + 1, none⟩ = some (.slice B (o.getD i (0, [])).2.length d) ∧ Rd w B (o.getD i (0, [])).2) := by
  obtain ⟨A, c, cs, B, d, vs, h1, ⟨h2, h3⟩, ⟨h4, h5⟩, h6, h7, h8, h9⟩ := h
  refine ⟨A, c, (rlcell h1).2.2.2.2.1, (rlcell h1).2.2.2.1, h2.2.1, h2.2.2.1, ?_⟩
  rcases h2.2.2.2 with ⟨h0, hc⟩ | ⟨g, off, cur, hA, hg, hs, hcl⟩
  · exact .inl ⟨h0, by have := h2.2.1; omega, hc⟩
  · refine .inr ⟨g, off, hA, lt_of_block hg, fun i hi => ?_⟩
    obtain ⟨k1, B', d', k2, k3, _⟩ := h3.at_ hi
    exact ⟨hcl _ _ k1, B', d', by rw [Nat.add_assoc]; exact hcl _ _ k2, k3.rd⟩
/-- the messages from i on, in a row of their own -/
theorem rl_cut (h : RlRaw w F b m W Q x o t) (ho : o.length ≤ 10000) {A : Option Addr} {c : Nat} (hA : w.cell? ⟨b, 4, none⟩ = some (.slice A o.length c)) {i : Nat} (hi : i ≤ o.length) (C : Option Addr) (cc : Nat)
    (hC : (A = none ∧ C = none) ∨ ∃ g off, A = some ⟨g, off, none⟩ ∧ ((c = i ∧ C = some ⟨g, off, none⟩) ∨ C = some ⟨g, off + i * 2, none⟩)) :
    ∃ A2 c2 V2, (∀ ty, (Builtin.append_ #[56, 56] ty #[.slice none 0 0, .slice C (o.length - i) cc]).run Try.prog w = .ok (.slice A2 (o.length - i) c2) V2) ∧ V2.frozen? ⟨b, 4, none⟩ = false ∧ V2.cell? ⟨b, 4, none⟩ = some (.slice A o.length c) ∧
      RlRaw (V2.setCell ⟨b, 4, none⟩ (.slice A2 (o.length - i) c2)) (more F w (V2.setCell ⟨b, 4, none⟩ (.slice A2 (o.length - i) c2))) b m W Q x (o.drop i) t ∧ Only F w (V2.setCell ⟨b, 4, none⟩ (.slice A2 (o.length - i) c2)) := by
  obtain ⟨A', c', cs, B, d, vs, h1, ⟨h2, h3⟩, ⟨h4, h5⟩, h6, h7, h8, h9⟩ := h
  have e1 := (rlcell h1).2.2.2.2.1
  rw [hA] at e1
  injection e1 with e1
  injection e1 with e1 _ e2
  subst e1 e2
  have hone := h3.one
  have key : ∃ A2 c2 V2, (∀ ty, (Builtin.append_ #[56, 56] ty #[.slice none 0 0, .slice C (o.length - i) cc]).run Try.prog w = .ok (.slice A2 (o.length - i) c2) V2) ∧ MidK 61 2 V2 A2 c2 (o.length - i) (cs.drop (i * 2)) ∧ Below w.heap.size w V2 ∧ ∀ k, blk A2 = some k → w.heap.size ≤ k := by
    rcases Nat.eq_zero_or_pos (o.length - i) with h0 | h0
    · rw [h0]
      have hcs : cs.drop (i * 2) = [] := List.drop_eq_nil_of_le (by rw [h2.1]; omega)
      rw [hcs]
      exact ⟨none, 0, w, fun ty => MidK.app0 etMsg (MidK.nil 61 2 w) C cc ty, MidK.nil _ _ _, Below.refl _ _, fun k hk => by simp [blk] at hk⟩
    · rcases hC with ⟨rfl, _⟩ | ⟨g, off, rfl, hC⟩
      · rcases h2.2.2.2 with ⟨_, hc0⟩ | ⟨g, off, cur, hA, _⟩
        · have := h2.2.1
          omega
        · cases hA
      · have hC' : C = some ⟨g, off + i * 2, none⟩ := by
          rcases hC with ⟨hc, _⟩ | hC
          · have := h2.2.1
            omega
          · exact hC
        subst hC'
        have src := h2.src etMsg (d := cc) hi hone
        obtain ⟨A2, c2, V2, r2, m2, o2, k2⟩ := (MidK.nil 61 2 w).app etMsg (by decide) _ (o.length - i) _ h0 src (by omega)
        rw [Nat.zero_add] at r2 m2
        rw [List.nil_append] at m2
        exact ⟨A2, c2, V2, r2, m2, o2.below (fun k hk => by simp [blk] at hk) (Nat.le_refl _), fun k hk => (k2 k hk).elim (fun h => by simp [blk] at h) id⟩
  obtain ⟨A2, c2, V2, r2, m2, b2, k2⟩ := key
  have o2 : Only (fun _ => False) w V2 := Only.of_below _ b2
  have hb2 := (b2.block b (lt_of_block h1)).trans h1
  have lt2 : ∀ k, more F w V2 k → k < V2.heap.size := more_lt h9 b2.size
  have hdl : (o.drop i).length = o.length - i := List.length_drop
  obtain ⟨z, raw, on⟩ := rl_set (F := more F w V2) (m := m) (W := W) (Q := Q) (x := x) (o := o.drop i) (A := A2) (c := c2) (cs := cs.drop (i * 2)) (t := t) (B := B) (d := d) (vs := vs) hb2 4 (.slice A2 (o.length - i) c2) (by rw [hdl]; simp [rlc]) (by rw [hdl]; exact m2) ((Ms.only o2 (fun _ _ _ h => h) (fun _ h => .inl h) h3).drop i) (h4.only o2 (fun _ _ h => h)) (Pcs.only o2 (fun _ _ _ h => h) (fun _ h => .inl h) h5) (.inl h6) (fun k hk => .inr ⟨k2 k hk, m2.blk_lt k hk⟩) (fun k hk => .inl (h8 k hk)) lt2
  refine ⟨A2, c2, V2, r2, z, (rlcell hb2).2.2.2.2.1, ?_, (o2.mono (fun _ _ h => h.elim)).trans (only_set V2 ⟨b, 4, none⟩ _) (fun k _ e => by rw [e]; exact h6)⟩
  have hs4 : (V2.setCell ⟨b, 4, none⟩ (.slice A2 (o.length - i) c2)).heap.size = V2.heap.size := by simp [World.setCell]
  have em : more F w (V2.setCell ⟨b, 4, none⟩ (.slice A2 (o.length - i) c2)) = more F w V2 := by unfold more; rw [hs4]
  rw [em]
  exact raw
/-- what Ack returns, and what it leaves -/
def RlAcked (F : Nat → Prop) (b : Nat) (s : Lg) (k : Int) (w : World) (e : Ending) (w' : World) : Prop :=
  e = .returned (.tuple #[.int .i64 (s.ackN k : Int), .bool (s.hit k)]) ∧ RlTurn F b (s.ack k) w w'
set_option maxRecDepth 20000 in
set_option maxHeartbeats 1000000 in
theorem rlAck_calls (h : RlP w F b s) (k : Int) (hk : I64 k) : Calls Try.prog 16 #[.pointer (some ⟨b, 0, none⟩), .int .i64 k] w (RlAcked F b s k w) := by
  have ok := h.2
  have hol := Lg.outM_len s
  obtain ⟨k1, k2⟩ := hk
  have hnb : s.n ≤ 10000 := by have := ok.nl; have := ok.len; omega
  obtain ⟨A, c, q4, q3, hc1, hc2, hAC⟩ := rl_out h.1
  have CUT := Lib.hid (fun i C cc hi hC => rl_cut h.1 (by omega) q4 (i := i) hi C cc hC)
  have GET := Lib.hid (show ∀ i, i < s.n → s.outM.getD i (0, []) = ((s.num i : Int), s.l.getD i []) from fun i hi => Lg.outM_get s hi)
  have HIT := Lib.hid (fun i (hi : i ≤ s.n) => Lg.hit_at ok hi)
  have NON := Lib.hid (fun (hk : ∀ j, j ≤ s.n → k ≠ (s.num j : Int)) => Lg.hit_none ok hk)
  have HH := Lib.hid h
  have hcm : c ≤ 9223372036854775807 := by unfold maxLen at hc2; omega
  have FIN := Lib.hid (show ∀ i, i ≤ s.n → ∀ V, RlRaw V (more F w V) b s.m s.W s.Q s.nx (s.outM.drop i) s.wait → Only F w V → RlAcked F b s (s.num i : Int) w (.returned (.tuple #[.int .i64 (i : Int), .bool true])) V from fun i hi V hr on => by
    obtain ⟨hj, hd, hh, hN⟩ := Lg.hit_at ok hi
    obtain ⟨eO, eW⟩ := Lg.ack_outM ok hj (by omega)
    have okA := ok.ack (s.num i : Int)
    have eX := Lg.ack_nx ok hj (by omega)
    have eA : s.ack (s.num i : Int) = ⟨s.m, s.W, s.Q, s.num i, s.n - s.ds (s.num i), s.l.drop (s.ds (s.num i))⟩ := by
      unfold Lg.ack
      rw [hh, Int.toNat_natCast]
      rfl
    unfold RlAcked
    rw [hh, hN]
    refine ⟨rfl, ⟨⟨?_, okA⟩, on⟩⟩
    rw [eO, eW, hd, show (s.ack (s.num i : Int)).m = s.m by rw [eA], show (s.ack (s.num i : Int)).W = s.W by rw [eA], show (s.ack (s.num i : Int)).Q = s.Q by rw [eA], show (s.ack (s.num i : Int)).nx = s.nx by rw [eA]; exact eX]
    exact hr)
  rw [hol] at q4 hc1 hAC CUT
  have enx : s.num s.n = s.nx := rfl
  rw [← enx] at q3
  clear h ok hc2 enx hol
  generalize hnn : s.n = n at *
  clear hnn
  go_enter Try.func16, Try.ntmps16
  go_wp2_with fail
  go_loopg [6] (n + 1) (fun kx s6 wr => ∃ i : Nat, s6 = .int .i64 (i : Int) ∧ i ≤ n + 1 ∧ n + 1 - i ≤ kx ∧ w = wr ∧ Aside (∀ j, j < i → k ≠ (s.num j : Int)))
  case atStart => exact ⟨0, rfl, by omega, by omega, rfl, fun j hj => by omega⟩
  case round =>
    obtain ⟨i, rfl, hi, hkx, rfl, HN⟩ := hrel
    by_cases hin : i ≤ n
    · have g1 : (i : Int) ≤ (n : Int) := by omega
      by_cases hlt : i < n
      · have g2 : (i : Int) < (n : Int) := by omega
        rcases hAC with ⟨_, hA0, _⟩ | ⟨g, off, rfl, hgs, hcl⟩
        · omega
        obtain ⟨qi, _⟩ := hcl i hlt
        rw [GET.out i hlt] at qi
        simp only at qi
        clear hcl
        by_cases hkq : k = (s.num i : Int)
        · have g3 : ((s.num i : Int) == k) = true := beq_iff_eq.2 hkq.symm
          have hci : ¬ c = i := by omega
          have g4 : (0 : Int) ≤ (i : Int) := by omega
          have g5 : (i : Int) ≤ (n : Int) := by omega
          obtain ⟨A2, c2, V2, r2, z4, k4, raw, on⟩ := CUT.out i (some ⟨g, off + i * 2, none⟩) (c - i) (by omega) (.inr ⟨g, off, rfl, .inr rfl⟩)
          have FI := Lib.hid (show RlAcked F b s k w (.returned (.tuple #[.int .i64 (i : Int), .bool true])) _ from by have := FIN.out i (by omega) _ raw on; rw [← hkq] at this; exact this)
          clear raw on CUT FIN GET HIT NON HH HN hkq
          go_wp2_with (at_builtin; refine Lib.wpList_append_run _ rfl _ _ _ _ rfl _ _ rfl rfl _ _ (r2 _) ?_)
          go_ret2
          exact FI.out
        · have g3 : ((s.num i : Int) == k) = false := beq_eq_false_iff_ne.2 (fun e => hkq e.symm)
          have HN2 : Aside (∀ j, j < i + 1 → k ≠ (s.num j : Int)) := fun j hj => by
            rcases Nat.lt_or_ge j i with h | h
            · exact HN.out j h
            · rw [show j = i by omega]; exact hkq
          clear HN CUT FIN GET HIT NON hkq
          go_wp2
          go_roundg (n + 1 - (i + 1))
          case measure => omega
          case rel => exact ⟨i + 1, by go_num, by omega, Nat.le_refl _, rfl, HN2⟩
      · have hien : i = n := by omega
        subst hien
        have g2 : ¬ (i : Int) < (i : Int) := by omega
        by_cases hkq : k = (s.num i : Int)
        · have g3 : ((s.num i : Int) == k) = true := beq_iff_eq.2 hkq.symm
          rcases hAC with ⟨rfl, hi0, rfl⟩ | ⟨g, off, rfl, hgs, hcl⟩
          · subst hi0
            obtain ⟨A2, c2, V2, r2, z4, k4, raw, on⟩ := CUT.out 0 none 0 (by omega) (.inl ⟨rfl, rfl⟩)
            have FI := Lib.hid (show RlAcked F b s k w (.returned (.tuple #[.int .i64 0, .bool true])) _ from by have := FIN.out 0 (by omega) _ raw on; rw [← hkq] at this; exact this)
            clear raw on CUT FIN GET HIT NON HH HN hkq
            rw [Nat.sub_self] at r2 FI
            go_wp2_with (at_builtin; refine Lib.wpList_append_run _ rfl _ _ _ _ rfl _ _ rfl rfl _ _ (r2 _) ?_)
            go_ret2
            exact FI.out
          · clear hcl
            by_cases hci : c = i
            · subst hci
              obtain ⟨A2, c2, V2, r2, z4, k4, raw, on⟩ := CUT.out c (some ⟨g, off, none⟩) 0 (by omega) (.inr ⟨g, off, rfl, .inl ⟨rfl, rfl⟩⟩)
              have FI := Lib.hid (show RlAcked F b s k w (.returned (.tuple #[.int .i64 (c : Int), .bool true])) _ from by have := FIN.out c (by omega) _ raw on; rw [← hkq] at this; exact this)
              clear raw on CUT FIN GET HIT NON HH HN hkq
              rw [Nat.sub_self] at r2 FI
              go_wp2_with (at_builtin; refine Lib.wpList_append_run _ rfl _ _ _ _ rfl _ _ rfl rfl _ _ (r2 _) ?_)
              go_ret2
              exact FI.out
            · obtain ⟨A2, c2, V2, r2, z4, k4, raw, on⟩ := CUT.out i (some ⟨g, off + i * 2, none⟩) (c - i) (by omega) (.inr ⟨g, off, rfl, .inr rfl⟩)
              have FI := Lib.hid (show RlAcked F b s k w (.returned (.tuple #[.int .i64 (i : Int), .bool true])) _ from by have := FIN.out i (by omega) _ raw on; rw [← hkq] at this; exact this)
              clear raw on CUT FIN GET HIT NON HH HN hkq
              rw [Nat.sub_self] at r2 FI
              go_wp2_with (at_builtin; refine Lib.wpList_append_run _ rfl _ _ _ _ rfl _ _ rfl rfl _ _ (r2 _) ?_)
              go_ret2
              exact FI.out
        · have g3 : ((s.num i : Int) == k) = false := beq_eq_false_iff_ne.2 (fun e => hkq e.symm)
          clear hAC
          have HN2 : Aside (∀ j, j < i + 1 → k ≠ (s.num j : Int)) := fun j hj => by
            rcases Nat.lt_or_ge j i with h | h
            · exact HN.out j h
            · rw [show j = i by omega]; exact hkq
          clear HN CUT FIN GET HIT NON hkq
          go_wp2
          go_roundg (i + 1 - (i + 1))
          case measure => omega
          case rel => exact ⟨i + 1, by go_num, by omega, Nat.le_refl _, rfl, HN2⟩
    · have g1 : ¬ (i : Int) ≤ (n : Int) := by omega
      have FI := Lib.hid (show RlAcked F b s k w (.returned (.tuple #[.int .i64 0, .bool false])) w from by
        obtain ⟨e1, e2, e3⟩ := NON.out (fun j hj => HN.out j (by omega))
        unfold RlAcked
        rw [e1, e2, e3]
        exact ⟨rfl, RlTurn.refl HH.out⟩)
      clear HN CUT FIN GET HIT NON hAC
      go_wp2
      go_ret2
      exact FI.out
end
end Go.Proofs.Yteofffnfafhgfaa

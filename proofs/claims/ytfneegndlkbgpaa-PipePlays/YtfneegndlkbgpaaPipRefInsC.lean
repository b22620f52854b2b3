/- Insert into a pipe of the reference before its last place. No condition. -/
import Derived.Test.YtfneegndlkbgpaaPipRefFault
namespace Go.Proofs.Ytfneegndlkbgpaa
open Go.RowKit
set_option linter.unusedVariables false

section
variable {w : World} {F : Nat → Prop} {b : Nat} {s : Pip}
set_option maxRecDepth 20000 in
set_option maxHeartbeats 8000000 in
theorem insertR_mid {A : Option Addr} {c : Nat} (hb : w.heap[b]? = some (.cells (pc s.R A s.l.length c s.cut s.st) 45 (0, 0))) (hm : Mid w A c s.l) (hne : blk A ≠ some b) (hF : F b) (hFA : ∀ k, blk A = some k → F k) (hlt : ∀ k, F k → k < w.heap.size) (ok : s.Ok) (inn : Nat) (y : UInt8) (hw : inn ≤ s.l.length ∧ s.l.length < s.R) {g off : Nat} (hA : A = some ⟨g, off, none⟩) (hcg : ¬ c = inn) :
    Calls Try.prog 15 #[.pointer (some ⟨b, 0, none⟩), .int .i64 5, .int .i64 (inn : Int), bv y] w fun e w' => e = .returned (.bool true) ∧ Turn F 45 b ⟨s.R, s.l.take inn ++ y :: s.l.drop inn, s.cut, s.st⟩ w w' := by
  obtain ⟨c0, c1, c2, c3⟩ := pcell hb
  have hbs := lt_of_block hb
  have hcap := hm.1
  have hc63 : c ≤ 9223372036854775807 := by have := hm.2.1; unfold maxLen at this; omega
  have hsl : s.l.length ≤ 1048576 := by have := ok.1; have := ok.2; omega
  have okI : Pip.Ok ⟨s.R, s.l.take inn ++ y :: s.l.drop inn, s.cut, s.st⟩ := ⟨by show (s.l.take inn ++ y :: s.l.drop inn).length ≤ s.R; rw [ins_length s.l inn y hw.1]; omega, ok.2⟩
  have hin : inn ≤ s.l.length := hw.1
  have hR : s.l.length < s.R := hw.2
  obtain ⟨L, hL⟩ : ∃ L, s.l.length + 1 = L := ⟨_, rfl⟩
  have R1 : ∀ q V, Below ((w.drewN q).drew).heap.size ((w.drewN q).drew) V → Rd V A (s.l.take inn) := fun q V hV => (show Rd ((w.drewN q).drew) A (s.l.take inn) from hm.rd.front _).below hV
  have RH := Lib.hid (show ∀ q B', ((c = inn ∧ B' = A) ∨ ∃ g off, A = some ⟨g, off, none⟩ ∧ B' = some ⟨g, off + inn, none⟩) → ∀ V, Below ((w.drewN q).drew).heap.size ((w.drewN q).drew) V → Rd V B' (s.l.drop inn) from fun q B' hB V hV =>
    (show Rd ((w.drewN q).drew) B' (s.l.drop inn) from (hm.rest hin B' hB).rd).below hV)
  have TA := Lib.hid (fun q B' d' R' => three_aw (V0 := (w.drewN q).drew) (cB := c) (d' := d') (y := y) (B' := B') (R1 q) R' hin rfl hsl L hL)
  have TB := Lib.hid (fun q B' d' R' => three_bw (V0 := (w.drewN q).drew) (cB := c) (d' := d') (y := y) (B' := B') (R1 q) R' hin rfl hsl L hL)
  have KC := Lib.hid (show ∀ q V, Below ((w.drewN q).drew).heap.size ((w.drewN q).drew) V → V.cell? ⟨b, 1, none⟩ = some (.slice A s.l.length c) from fun q V hV => (hV.cell (p := ⟨b, 1, none⟩) hbs).trans c1)
  have hLL : (s.l.take inn ++ y :: s.l.drop inn).length = L := by rw [ins_length s.l inn y hin]; exact hL
  have FIN := Lib.hid (show ∀ q V3 A3 c3, Thrd ((w.drewN q).drew) V3 A3 c3 (s.l.take inn ++ y :: s.l.drop inn) → V3.cell? ⟨b, 1, none⟩ = some (.slice A s.l.length c) ∧ V3.frozen? ⟨b, 1, none⟩ = false ∧ Turn F 45 b ⟨s.R, s.l.take inn ++ y :: s.l.drop inn, s.cut, s.st⟩ w (V3.setCell ⟨b, 1, none⟩ (.slice A3 L c3)) from fun q V3 A3 c3 ht => by
    obtain ⟨a1, a2, a3⟩ := ht.only A
    obtain ⟨f1, f2, f3⟩ := held_turn (w := (w.drewN q).drew) hb hne hF hFA hlt a1 a2 a3 okI
    rw [hLL] at f3
    exact ⟨f1, f2, Turn.from_drewN (n := q + 1) f3⟩)
  clear hb hm hne hF hFA hlt ok c2 c3 okI hw R1 hLL hL
  have g1 : ¬ (inn : Int) < 0 := by omega
  have g2 : ¬ (s.l.length : Int) < (inn : Int) := by omega
  have g3 : ¬ (s.R : Int) ≤ (s.l.length : Int) := by omega
  have d0 : decide ((inn : Int) < 0) = false := decide_eq_false g1
  have e1 : decide ((s.l.length : Int) < (inn : Int)) = false := decide_eq_false g2
  have e1' : decide (s.l.length < inn) = false := decide_eq_false (by omega)
  have e2 : decide ((s.R : Int) ≤ (s.l.length : Int)) = false := decide_eq_false g3
  have e2' : decide (s.R ≤ s.l.length) = false := decide_eq_false (by omega)
  have q1 : (0 : Int) ≤ (inn : Int) := by omega
  have q2 : (inn : Int) ≤ (c : Int) := by omega
  have q3 : (inn : Int) ≤ (s.l.length : Int) := by omega
  generalize s.l.take inn ++ y :: s.l.drop inn = l3 at *
  generalize s.l.drop inn = ld at *
  generalize s.l.length = m at *
  generalize hRR : s.R = R at *
  clear hRR
  unfold bv
  go_enter Try.func15, Try.ntmps15
  go_wp2_with fail
  go_quiet (fail)
  clear d0 e1 e1' e2 e2' c0 g1 g2 g3 hR
  subst hA
  obtain ⟨A1, k1, V1, r1, A2, k2, V2, r2, A3, k3, V3, r3, t3⟩ := TA.out nq (some ⟨g, off + inn, none⟩) (c - inn) (RH.out nq (some ⟨g, off + inn, none⟩) (.inr ⟨g, off, rfl, rfl⟩))
  obtain ⟨A1', k1', V1', r1', A2', k2', V2', r2', A3', k3', V3', r3', t3'⟩ := TB.out nq (some ⟨g, off + inn, none⟩) (c - inn) (RH.out nq (some ⟨g, off + inn, none⟩) (.inr ⟨g, off, rfl, rfl⟩))
  obtain ⟨x1, x2, x3⟩ := FIN.out nq V3 A3 k3 t3.1
  obtain ⟨y1, y2, y3⟩ := FIN.out nq V3' A3' k3' t3'.1
  have d0 : (w.drewN nq).drew.cell? ⟨b, 1, none⟩ = some (.slice (some ⟨g, off, none⟩) m c) := c1
  have d0a : ((w.drewN nq).drew.alloc (.cells #[.int .u8 (y.toNat : Int)] 5)).cell? ⟨b, 1, none⟩ = some (.slice (some ⟨g, off, none⟩) m c) := KC.out nq _ (laid_below _ [y])
  have d0' : (w.drewN (nq + 1)).cell? ⟨b, 1, none⟩ = some (.slice (some ⟨g, off, none⟩) m c) := d0
  have d0b : ((w.drewN (nq + 1)).alloc (.cells #[.int .u8 (y.toNat : Int)] 5)).cell? ⟨b, 1, none⟩ = some (.slice (some ⟨g, off, none⟩) m c) := d0a
  have d1 : V1.cell? ⟨b, 1, none⟩ = some (.slice (some ⟨g, off, none⟩) m c) := KC.out nq _ t3.2.1
  have d1a : (V1.alloc (.cells #[.int .u8 (y.toNat : Int)] 5)).cell? ⟨b, 1, none⟩ = some (.slice (some ⟨g, off, none⟩) m c) := KC.out nq _ (t3.2.1.trans ((laid_below V1 [y]).mono t3.2.1.size))
  have d2 : V2.cell? ⟨b, 1, none⟩ = some (.slice (some ⟨g, off, none⟩) m c) := KC.out nq _ t3.2.2
  have d1' : V1'.cell? ⟨b, 1, none⟩ = some (.slice (some ⟨g, off, none⟩) m c) := KC.out nq _ t3'.2.1
  have d2' : V2'.cell? ⟨b, 1, none⟩ = some (.slice (some ⟨g, off, none⟩) m c) := KC.out nq _ t3'.2.2
  have XX := Lib.hid x3
  have YY := Lib.hid y3
  clear t3 t3' TA TB RH FIN x3 y3 KC
  have r1w : ∀ ty, (Builtin.append_ #[28, 28] ty #[.slice none 0 0, .slice (some ⟨g, off, none⟩) inn c]).run Try.prog (w.drewN nq).drew = .ok (.slice A1 inn k1) V1 := r1
  have r2x : ∀ ty, (Builtin.append_ #[28, 28] ty #[.slice A1 inn k1, .slice (some ⟨V1.heap.size, 0, none⟩) 1 1]).run Try.prog (V1.alloc (.cells #[.int .u8 (y.toNat : Int)] 5)) = .ok (.slice A2 (inn + 1) k2) V2 := r2
  have r1x : ∀ ty, (Builtin.append_ #[28, 28] ty #[.slice none 0 0, .slice (some ⟨g, off, none⟩) inn c]).run Try.prog ((w.drewN nq).drew.alloc (.cells #[.int .u8 (y.toNat : Int)] 5)) = .ok (.slice A1' inn k1') V1' := r1'
  have r1v : ∀ ty, (Builtin.append_ #[28, 28] ty #[.slice none 0 0, .slice (some ⟨g, off, none⟩) inn c]).run Try.prog (w.drewN (nq + 1)) = .ok (.slice A1 inn k1) V1 := r1
  have r1z : ∀ ty, (Builtin.append_ #[28, 28] ty #[.slice none 0 0, .slice (some ⟨g, off, none⟩) inn c]).run Try.prog ((w.drewN (nq + 1)).alloc (.cells #[.int .u8 (y.toNat : Int)] 5)) = .ok (.slice A1' inn k1') V1' := r1'
  have r2y : ∀ ty, (Builtin.append_ #[28, 28] ty #[.slice A1' inn k1', .slice (some ⟨w.heap.size, 0, none⟩) 1 1]).run Try.prog V1' = .ok (.slice A2' (inn + 1) k2') V2' := r2'
  have r3x : ∀ ty, (Builtin.append_ #[28, 28] ty #[.slice A2 (inn + 1) k2, .slice (some ⟨g, off + inn, none⟩) (m - inn) (c - inn)]).run Try.prog V2 = .ok (.slice A3 L k3) V3 := r3
  have r3y : ∀ ty, (Builtin.append_ #[28, 28] ty #[.slice A2' (inn + 1) k2', .slice (some ⟨g, off + inn, none⟩) (m - inn) (c - inn)]).run Try.prog V2' = .ok (.slice A3' L k3') V3' := r3'
  clear r1 r2 r1' r2' r3 r3'
  go_wp2_with fail
  go_region_law (first
    | ((with_reducible refine step_append_run _ ?_ (.const (.slice none 0 0)) (.tmp 97) _ _ ?_ _ _ ?_ ?_ _ _ (r1w _) ?_); rfl; rfl; (focus (first | (simp [Act.eval]; done) | (simp [Act.eval, Act.put]; done))); (focus (first | (simp [Act.eval]; done) | (simp [Act.eval, Act.put]; done))))
    | ((with_reducible refine step_append_run _ ?_ (.const (.slice none 0 0)) (.tmp 97) _ _ ?_ _ _ ?_ ?_ _ _ (r1v _) ?_); rfl; rfl; (focus (first | (simp [Act.eval]; done) | (simp [Act.eval, Act.put]; done))); (focus (first | (simp [Act.eval]; done) | (simp [Act.eval, Act.put]; done))))
    | ((with_reducible refine step_append_run _ ?_ (.const (.slice none 0 0)) (.tmp 97) _ _ ?_ _ _ ?_ ?_ _ _ (r1z _) ?_); rfl; rfl; (focus (first | (simp [Act.eval]; done) | (simp [Act.eval, Act.put]; done))); (focus (first | (simp [Act.eval]; done) | (simp [Act.eval, Act.put]; done))))
    | ((with_reducible refine step_append_run _ ?_ (.const (.slice none 0 0)) (.tmp 97) _ _ ?_ _ _ ?_ ?_ _ _ (r1x _) ?_); rfl; rfl; (focus (first | (simp [Act.eval]; done) | (simp [Act.eval, Act.put]; done))); (focus (first | (simp [Act.eval]; done) | (simp [Act.eval, Act.put]; done))))
    | ((with_reducible refine step_append_run _ ?_ (.tmp 98) (.tmp 100) _ _ ?_ _ _ ?_ ?_ _ _ (r2x _) ?_); rfl; rfl; (focus (first | (simp [Act.eval]; done) | (simp [Act.eval, Act.put]; done))); (focus (first | (simp [Act.eval]; done) | (simp [Act.eval, Act.put]; done))))
    | ((with_reducible refine step_append_run _ ?_ (.tmp 98) (.tmp 100) _ _ ?_ _ _ ?_ ?_ _ _ (r2y _) ?_); rfl; rfl; (focus (first | (simp [Act.eval]; done) | (simp [Act.eval, Act.put]; done))); (focus (first | (simp [Act.eval]; done) | (simp [Act.eval, Act.put]; done))))
    | ((with_reducible refine step_append_run _ ?_ (.tmp 101) (.tmp 107) _ _ ?_ _ _ ?_ ?_ _ _ (r3x _) ?_); rfl; rfl; (focus (first | (simp [Act.eval]; done) | (simp [Act.eval, Act.put]; done))); (focus (first | (simp [Act.eval]; done) | (simp [Act.eval, Act.put]; done))))
    | ((with_reducible refine step_append_run _ ?_ (.tmp 101) (.tmp 107) _ _ ?_ _ _ ?_ ?_ _ _ (r3y _) ?_); rfl; rfl; (focus (first | (simp [Act.eval]; done) | (simp [Act.eval, Act.put]; done))); (focus (first | (simp [Act.eval]; done) | (simp [Act.eval, Act.put]; done)))))
  all_goals
    go_wp2
    go_ret
    first | exact ⟨rfl, XX.out⟩ | exact ⟨rfl, YY.out⟩
end
end Go.Proofs.Ytfneegndlkbgpaa

/- Take of an order of the program. No condition. -/
import Derived.Test.YtbalhpffdgbdgaaOrdMem
namespace Go.Proofs.Ytbalhpffdgbdgaa
open Go.RowKit
set_option linter.unusedVariables false

section
variable {w w' : World} {F G : Nat → Prop} {b m W e : Nat} {l : List (Int × List UInt8)} {r : List (List UInt8)} {x : List UInt8} {s : Od}
/-- a slice of bytes reads as it did where a slice's cell has turned -/
theorem rd_set {p : Addr} {u : Value} {A : Option Addr} {n c : Nat} (hp : w.cell? p = some (.slice A n c)) {X : Option Addr} {z : List UInt8} (h : Rd w X z) : Rd (w.setCell p u) X z := fun hz => by
  obtain ⟨b, off, e, hc⟩ := h hz
  refine ⟨b, off, e, fun j hj => ?_⟩
  have h1 := hc j hj
  rw [World.cell?_setCell_other _ _ _ _ (by intro e2; rw [← e2, hp] at h1; cases h1)]
  exact h1
/-- the first that is ready goes -/
theorem od_pop (h : OdRaw w F b m W e l (x :: r)) : ∃ g off c B d, w.cell? ⟨b, 4, none⟩ = some (.slice (some ⟨g, off, none⟩) (r.length + 1) c) ∧ w.cell? ⟨g, off, none⟩ = some (.slice B x.length d) ∧ w.frozen? ⟨g, off, none⟩ = false ∧ r.length + 1 ≤ c ∧ c ≤ maxLen ∧
    ∃ V1, w.setCell ⟨g, off, none⟩ (.slice none 0 0) = V1 ∧ V1.cell? ⟨b, 4, none⟩ = some (.slice (some ⟨g, off, none⟩) (r.length + 1) c) ∧ V1.frozen? ⟨b, 4, none⟩ = false ∧
      ∀ C, C = (if c = 1 then some ⟨g, off, none⟩ else some ⟨g, off + 1, none⟩) → OdRaw (V1.setCell ⟨b, 4, none⟩ (.slice C r.length (c - 1))) F b m W e l r ∧ Only F w (V1.setCell ⟨b, 4, none⟩ (.slice C r.length (c - 1))) ∧ Rd (V1.setCell ⟨b, 4, none⟩ (.slice C r.length (c - 1))) B x ∧ ∀ X z, Rd w X z → Rd (V1.setCell ⟨b, 4, none⟩ (.slice C r.length (c - 1))) X z := by
  obtain ⟨B, V, A, c, vs, h1, ⟨hM, hK⟩, ⟨h4, h5⟩, h6, h7, h8, h9⟩ := h
  obtain ⟨v, us, rfl, hv, hus⟩ := h5.cons_inv
  obtain ⟨C, d, rfl, hmC, hFC⟩ := hv
  have hul := hus.len
  have hlc := h4.1
  simp at hlc
  obtain ⟨g, off, rfl, k0, hfz, hset⟩ := h4.first
  have hlc2 := h4.2.1
  have hty := h4.type g rfl
  have on1 := only_set w ⟨g, off, none⟩ (.slice none 0 0)
  have hgb : ¬ b = g := fun e => by
    obtain ⟨cur, t⟩ := hty
    rw [← e] at t
    exact types_apart (by decide) t h1
  have hgB : ¬ B = g := fun e => by
    obtain ⟨cur, t⟩ := hty
    rw [← e] at t
    exact hM.notCells t
  have hgu : ∀ k, (∃ cur, w.heap[k]? = some (.cells cur 5 (0, 0))) → ¬ k = g := fun k hk e => by
    obtain ⟨cur, t⟩ := hk
    obtain ⟨cur', t'⟩ := hty
    rw [e] at t
    exact types_apart (by decide) t t'
  have hb1 := (on1.block b (lt_of_block h1) hgb).trans h1
  have h8' : F g := h8 g rfl
  refine ⟨g, off, c, C, d, (odcell h1).2.2.2.2, k0, hfz, by omega, hlc2, _, rfl, (odcell hb1).2.2.2.2, frozen_of_row _ b 4 _ _ hb1, fun C' hC' => ?_⟩
  obtain ⟨g', off', e', k1, k2, m0, m1⟩ := (hset (.slice none 0 0)).rest
  injection e' with e'
  injection e' with e1 e2
  subst e1 e2
  have hm' : MidV 28 (w.setCell ⟨g, off, none⟩ (.slice none 0 0)) C' (c - 1) us := by
    rw [hC']
    split
    · next e => have := m0 e; rw [e]; exact this
    · exact m1
  have hF' : ∀ k, blk C' = some k → F k := fun k hk => by
    rw [hC'] at hk
    split at hk <;> (injection hk with hk; exact (show g = k from hk) ▸ h8')
  obtain ⟨z, raw, on2⟩ := od_set (F := F) (m := m) (W := W) (e := e) (l := l) (r := r) hb1 4 (.slice C' r.length (c - 1)) (by simp [odc]) (hM.only on1 hgB) (Kp.only on1 (fun k _ hk => hgu k hk) (fun _ h => h) hK) hm' (Pcs.only on1 (fun k _ hk => hgu k hk) (fun _ h => h) hus) h6 h7 hF' (fun k hk => Nat.lt_of_lt_of_le (h9 k hk) on1.size)
  have hm1 : Mid (w.setCell ⟨g, off, none⟩ (.slice none 0 0)) C d x := hmC.only on1 (fun k hk => hgu k (hmC.type k hk))
  exact ⟨raw, (on1.mono (fun k _ e => by rw [e]; exact h8')).trans on2 (fun _ _ h => h), (hm1.only (only_set _ ⟨b, 4, none⟩ _) (fun k hk => od_off (F := F) hb1 (by decide) k (hFC k hk) (hm1.type k hk))).rd, fun X z hX => rd_set (odcell hb1).2.2.2.2 (rd_set k0 hX)⟩
/-- what Take returns, and what it leaves -/
def OdTook (F : Nat → Prop) (b : Nat) (s : Od) (w : World) (e : Ending) (w' : World) : Prop :=
  ∃ A c, e = .returned (.tuple #[.slice A s.takeX.length c, .bool s.takeB]) ∧ Rd w' A s.takeX ∧ OdP w' F b s.take ∧ Only F w w' ∧ ∀ X z, Rd w X z → Rd w' X z
set_option maxHeartbeats 400000 in
theorem odTake_calls (h : OdP w F b s) : Calls Try.prog 12 #[.pointer (some ⟨b, 0, none⟩)] w (OdTook F b s w) := by
  have ok := h.2
  have okT := Lib.hid ok.take
  obtain ⟨m, W, e, l, r⟩ := s
  cases r with
  | nil =>
    have FI := Lib.hid (show OdTook F b ⟨m, W, e, l, []⟩ w (.returned (.tuple #[.slice none 0 0, .bool false])) w from ⟨none, 0, rfl, (Mid.nil w).rd, h, Only.refl _ _, fun _ _ h => h⟩)
    obtain ⟨⟨B, V, A, c, vs, h1, _⟩, _⟩ := h
    obtain ⟨c0, c1, c2, c3, c4⟩ := odcell h1
    simp only [List.length_nil] at c4
    clear h1 ok okT c0 c1 c2 c3
    go_enter Try.func12, Try.ntmps12
    go_wp2
    go_ret2
    exact FI.out
  | cons x r =>
    obtain ⟨g, off, c, C, d, k4, k0, z0, hc1, hc2, V1, hV1, j4, z4, FIN⟩ := od_pop h.1
    unfold maxLen at hc2
    have FI := Lib.hid (show ∀ C', C' = (if c = 1 then some ⟨g, off, none⟩ else some ⟨g, off + 1, none⟩) → OdTook F b ⟨m, W, e, l, x :: r⟩ w (.returned (.tuple #[.slice C x.length d, .bool true])) (V1.setCell ⟨b, 4, none⟩ (.slice C' r.length (c - 1))) from fun C' hC' => by
      obtain ⟨raw, on, rd, kp⟩ := FIN C' hC'
      exact ⟨C, d, by simp [Od.takeX, Od.takeB], by simpa [Od.takeX] using rd, ⟨raw, okT.out⟩, on, kp⟩)
    have g1 : (((r.length + 1 : Nat) : Int) == 0) = false := beq_eq_false_iff_ne.2 (by omega)
    clear FIN h ok okT
    generalize r.length = n at *
    generalize x.length = p at *
    have hcz : (1 : Int) ≤ (c : Int) := by omega
    by_cases hc : c = 1
    · subst hc
      have hn : n = 0 := by omega
      subst hn
      have FJ := Lib.hid (FI.out _ rfl)
      simp only [if_true] at FJ
      clear FI
      go_enter Try.func12, Try.ntmps12
      go_wp2
      go_ret2
      exact FJ.out
    · have FJ := Lib.hid (FI.out _ rfl)
      simp only [hc, if_false] at FJ
      clear FI
      go_enter Try.func12, Try.ntmps12
      go_wp2
      go_ret2
      exact FJ.out
end
end Go.Proofs.Ytbalhpffdgbdgaa

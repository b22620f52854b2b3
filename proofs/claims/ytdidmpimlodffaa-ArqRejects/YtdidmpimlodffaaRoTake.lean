/- Take of an order of the reference. Condition: fewer than a hundred thousand messages. -/
import Derived.Test.YtdidmpimlodffaaRoMem
import Derived.StillTailTactics
namespace Go.Proofs.Ytdidmpimlodffaa
open Go.RowKit
set_option linter.unusedVariables false

section
variable {w : World} {F : Nat → Prop} {b m W e : Nat} {o : List (Int × List UInt8)} {t : List (List UInt8)} {x : List UInt8} {s : Od}
/-- a slice of bytes reads as it did where a slice's cell has turned -/
theorem rd_setR {p : Addr} {u : Value} {A : Option Addr} {n c : Nat} (hp : w.cell? p = some (.slice A n c)) {X : Option Addr} {z : List UInt8} (h : Rd w X z) : Rd (w.setCell p u) X z := fun hz => by
  obtain ⟨b, off, e, hc⟩ := h hz
  refine ⟨b, off, e, fun j hj => ?_⟩
  have h1 := hc j hj
  rw [World.cell?_setCell_other _ _ _ _ (by intro e2; rw [← e2, hp] at h1; cases h1)]
  exact h1
/-- the first that is ready, and the copy of the others -/
theorem ro_rest (h : RoRaw w F b m W e o (x :: t)) (ht : t.length ≤ 1000000) : ∃ g off d B dy, w.cell? ⟨b, 4, none⟩ = some (.slice (some ⟨g, off, none⟩) (t.length + 1) d) ∧ w.cell? ⟨g, off, none⟩ = some (.slice B x.length dy) ∧ t.length + 1 ≤ d ∧ d ≤ maxLen ∧
    ∀ C, (d = 1 ∧ C = some ⟨g, off, none⟩) ∨ C = some ⟨g, off + 1, none⟩ → ∃ A2 c2 V2, (∀ ty, (Builtin.append_ #[31, 31] ty #[.slice none 0 0, .slice C t.length (d - 1)]).run Try.prog w = .ok (.slice A2 t.length c2) V2) ∧
      V2.frozen? ⟨b, 4, none⟩ = false ∧ V2.cell? ⟨b, 4, none⟩ = some (.slice (some ⟨g, off, none⟩) (t.length + 1) d) ∧ RoRaw (V2.setCell ⟨b, 4, none⟩ (.slice A2 t.length c2)) (more F w (V2.setCell ⟨b, 4, none⟩ (.slice A2 t.length c2))) b m W e o t ∧ Only F w (V2.setCell ⟨b, 4, none⟩ (.slice A2 t.length c2)) ∧ Rd (V2.setCell ⟨b, 4, none⟩ (.slice A2 t.length c2)) B x ∧ ∀ X z, Rd w X z → Rd (V2.setCell ⟨b, 4, none⟩ (.slice A2 t.length c2)) X z := by
  obtain ⟨A, c, cs, B, d, vs, h1, ⟨h2, h3⟩, ⟨h4, h5⟩, h6, h7, h8, h9⟩ := h
  obtain ⟨v, us, rfl, hv, hus⟩ := h5.cons_inv
  obtain ⟨g, off, rfl, k0, hd1, m0, m1⟩ := h4.rest
  obtain ⟨By, dy, rfl, hm, hF⟩ := hv
  have hlc := h4.1
  have hul := hus.len
  simp at hlc
  refine ⟨g, off, d, By, dy, (rocell h1).2.2.2.2, k0, by omega, h4.2.1, fun C hC => ?_⟩
  -- the source, as a row of its own
  have src : MidV 39 w C (d - 1) us := by
    rcases hC with ⟨rfl, rfl⟩ | rfl
    · exact m0 rfl
    · exact m1
  have key : ∃ A2 c2 V2, (∀ ty, (Builtin.append_ #[31, 31] ty #[.slice none 0 0, .slice C t.length (d - 1)]).run Try.prog w = .ok (.slice A2 t.length c2) V2) ∧ MidV 39 V2 A2 c2 us ∧ Below w.heap.size w V2 ∧ ∀ k, blk A2 = some k → w.heap.size ≤ k := by
    rcases hus' : us with _ | ⟨u, us'⟩
    · have ht0 : t.length = 0 := by rw [← hul, hus']; rfl
      refine ⟨none, 0, w, fun ty => ?_, MidV.nil _ _, Below.refl _ _, fun k hk => by simp [blk] at hk⟩
      rw [ht0]
      exact MidK.app0 (k := 1) ⟨etRow.und, etRow.info, etRow.one, Nat.le_trans etRow.small (by decide)⟩ (MidK.nil 39 1 w) C (d - 1) ty
    · obtain ⟨gc, oc, rfl⟩ : ∃ gc oc, C = some ⟨gc, oc, none⟩ := by rcases hC with ⟨_, rfl⟩ | rfl <;> exact ⟨_, _, rfl⟩
      have hcell : ∀ j u, us[j]? = some u → w.cell? ⟨gc, oc + j, none⟩ = some u := fun j u hj => by
        obtain ⟨g', off', e', hc⟩ := src.at_ hj
        injection e' with e'
        injection e' with e1 e2
        rw [e1, e2]
        exact hc
      have hone : ∀ u ∈ us, u.oneCell' = true := fun u hu => by
        obtain ⟨j, hj⟩ := List.mem_iff_getElem?.1 hu
        have hjl : j < t.length := by rw [← hul]; exact (List.getElem?_eq_some_iff.1 hj).1
        obtain ⟨B', d', e'⟩ := hus.get hjl
        rw [e'] at hj
        injection hj with hj
        rw [← hj]
        rfl
      obtain ⟨A2, c2, V2, r2, m2, o2, k2⟩ := (MidV.nil 39 w).app etRow gc oc (d - 1) us (by rw [hus']; simp) hcell hone (by simp; omega)
      rw [List.nil_append] at m2
      rw [hul, List.length_nil, Nat.zero_add] at r2
      rw [← hus']
      exact ⟨A2, c2, V2, r2, m2, o2.below (fun k hk => by simp [blk] at hk) (Nat.le_refl _), fun k hk => (k2 k hk).elim (fun h => by simp [blk] at h) id⟩
  obtain ⟨A2, c2, V2, r2, m2, b2, k2⟩ := key
  have o2 : Only (fun _ => False) w V2 := Only.of_below _ b2
  have hb2 := (b2.block b (lt_of_block h1)).trans h1
  have lt2 : ∀ k, more F w V2 k → k < V2.heap.size := more_lt h9 b2.size
  obtain ⟨z5, raw, on5⟩ := ro_set (F := more F w V2) (m := m) (W := W) (e := e) (o := o) (A := A) (c := c) (cs := cs) (t := t) (B := A2) (d := c2) (vs := us) hb2 4 (.slice A2 t.length c2) (by simp [roc]) (h2.only o2 (fun _ _ h => h)) (Ms.only o2 (fun _ _ _ h => h) (fun _ h => .inl h) h3) m2 (Pcs.only o2 (fun _ _ _ h => h) (fun _ h => .inl h) hus) (.inl h6) (fun k hk => .inl (h7 k hk)) (fun k hk => .inr ⟨k2 k hk, m2.blk_lt k hk⟩) lt2
  refine ⟨A2, c2, V2, r2, z5, (rocell hb2).2.2.2.2, ?_, (o2.mono (fun _ _ h => h.elim)).trans (only_set V2 ⟨b, 4, none⟩ _) (fun k _ e => by rw [e]; exact h6), ?_, fun X z hX => rd_setR (rocell hb2).2.2.2.2 (hX.below b2)⟩
  · have hs4 : (V2.setCell ⟨b, 4, none⟩ (.slice A2 t.length c2)).heap.size = V2.heap.size := by simp [World.setCell]
    have em : more F w (V2.setCell ⟨b, 4, none⟩ (.slice A2 t.length c2)) = more F w V2 := by unfold more; rw [hs4]
    rw [em]
    exact raw
  · have hm2 := hm.only o2 (fun _ _ h => h)
    exact (hm2.only (only_set V2 ⟨b, 4, none⟩ _) (fun k hk => ro_off (F := F) hb2 (by decide) k (hF k hk) (hm2.type k hk))).rd
/-- what Take returns, and what it leaves -/
def RoTook (F : Nat → Prop) (b : Nat) (s : Od) (w : World) (e : Ending) (w' : World) : Prop :=
  ∃ A c, e = .returned (.tuple #[.slice A s.takeX.length c, .bool s.takeB]) ∧ Rd w' A s.takeX ∧ RoTurn F b s.take w w' ∧ ∀ X z, Rd w X z → Rd w' X z
set_option maxHeartbeats 1000000 in
theorem roTake_calls (h : RoP w F b s) (hall : s.all ≤ 100000) : Calls Try.prog 37 #[.pointer (some ⟨b, 0, none⟩)] w (RoTook F b s w) := by
  have ok := h.2
  have okT := Lib.hid ok.take
  obtain ⟨m, W, e, l, r⟩ := s
  cases r with
  | nil =>
    have FI := Lib.hid (show RoTook F b ⟨m, W, e, l, []⟩ w (.returned (.tuple #[.slice none 0 0, .bool false])) w from ⟨none, 0, rfl, Rd.nil _ _, RoTurn.refl h, fun _ _ h => h⟩)
    obtain ⟨⟨A, c, cs, B, d, vs, h1, _⟩, _⟩ := h
    obtain ⟨c0, c1, c2, c3, c4⟩ := rocell h1
    simp only [List.length_nil] at c4
    clear h1 ok okT c0 c1 c2 c3
    go_enter Try.func37, Try.ntmps37
    go_wp2
    go_ret2
    exact FI.out
  | cons x r =>
    obtain ⟨g, off, c, C, d, k4, k0, hc1, hc2, FIN⟩ := ro_rest h.1 (by simp only [Od.all, List.length_cons] at hall; omega)
    have hc3 : c ≤ 9223372036854775807 := by unfold maxLen at hc2; omega
    have key : ∃ C', C' = (if c = 1 then some (⟨g, off, none⟩ : Addr) else some ⟨g, off + 1, none⟩) := ⟨_, rfl⟩
    obtain ⟨C', hC'⟩ := key
    obtain ⟨A2, c2, V2, r2, z2, k2, raw, on, rd, kp⟩ := FIN C' (by rw [hC']; split; exact .inl ⟨by assumption, rfl⟩; exact .inr rfl)
    have FI := Lib.hid (show RoTook F b ⟨m, W, e, l, x :: r⟩ w (.returned (.tuple #[.slice C x.length d, .bool true])) (V2.setCell ⟨b, 4, none⟩ (.slice A2 r.length c2)) from ⟨C, d, by simp [Od.takeX, Od.takeB], by simpa [Od.takeX] using rd, ⟨⟨raw, okT.out⟩, on⟩, kp⟩)
    have g1 : (((r.length + 1 : Nat) : Int) == 0) = false := beq_eq_false_iff_ne.2 (by omega)
    clear FIN h ok okT raw on rd kp hc2 hall
    generalize r.length = n at *
    generalize x.length = p at *
    have hcz : (1 : Int) ≤ (c : Int) := by omega
    by_cases hc : c = 1
    · rw [if_pos hc] at hC'
      subst hC'
      subst hc
      have hn : n = 0 := by omega
      subst hn
      simp only [Nat.sub_self] at r2
      go_enter Try.func37, Try.ntmps37
      go_wp2_with (at_builtin; refine Lib.wpList_append_run _ rfl _ _ _ _ rfl _ _ rfl rfl _ _ (r2 _) ?_)
      go_ret2
      exact FI.out
    · rw [if_neg hc] at hC'
      subst hC'
      go_enter Try.func37, Try.ntmps37
      go_wp2_with (at_builtin; refine Lib.wpList_append_run _ rfl _ _ _ _ rfl _ _ rfl rfl _ _ (r2 _) ?_)
      go_ret2
      exact FI.out
end
end Go.Proofs.Ytdidmpimlodffaa

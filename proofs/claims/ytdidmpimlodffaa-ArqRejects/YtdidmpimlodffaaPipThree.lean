/- append(append(append([]byte(nil), s[:i]...), y), s[i:]...): three appends and a new row between them, in either order. Condition: the parts read as their bytes, also behind what is made. -/
import Derived.Test.YtdidmpimlodffaaG2
namespace Go.Proofs.Ytdidmpimlodffaa
open Go.RowKit
set_option linter.unusedVariables false

/-- the third append's result -/
def Thrd (V0 V3 : World) (A3 : Option Addr) (c3 : Nat) (l' : List UInt8) : Prop := Mid V3 A3 c3 l' ∧ Below V0.heap.size V0 V3 ∧ ∀ k, blk A3 = some k → V0.heap.size ≤ k
theorem Thrd.only {V0 V3 : World} {A3 : Option Addr} {c3 : Nat} {l' : List UInt8} (h : Thrd V0 V3 A3 c3 l') (A : Option Addr) : Only (fun k => blk A = some k) V0 V3 ∧ Mid V3 A3 c3 l' ∧ ∀ k, blk A3 = some k → blk A = some k ∨ V0.heap.size ≤ k :=
  ⟨Only.of_below _ h.2.1, h.1, fun k hk => .inr (h.2.2 k hk)⟩
section
variable {V0 : World} {B B' : Option Addr} {cB d' i n : Nat} {l : List UInt8} {y : UInt8}
theorem app_nil {V : World} {C : Option Addr} {d m : Nat} {x : List UInt8} (hr : Rd V C x) (hx : x.length = m) (hm : m ≤ 1048576) :
    ∃ A1 c1 V1, (∀ ty, (Builtin.append_ #[39, 39] ty #[.slice none 0 0, .slice C m d]).run Try.prog V = .ok (.slice A1 m c1) V1) ∧ Mid V1 A1 c1 x ∧ Below V.heap.size V V1 ∧ ∀ k, blk A1 = some k → V.heap.size ≤ k := by
  obtain ⟨A1, c1, V1, r, m1, o, kin⟩ := (Mid.nil V).app C d x hr (by simp; omega)
  rw [List.nil_append] at r m1
  rw [hx] at r
  exact ⟨A1, c1, V1, r, m1, o.below (B := V.heap.size) (fun k hk => by simp [blk] at hk) (Nat.le_refl _), fun k hk => (kin k hk).elim (fun h => by simp [blk] at h) id⟩
theorem app_own {V0 V : World} {A : Option Addr} {c : Nat} {l x : List UInt8} {C : Option Addr} {d n m q : Nat} (h : Mid V A c l) (hA : ∀ k, blk A = some k → V0.heap.size ≤ k) (hb : Below V0.heap.size V0 V) (hr : Rd V C x) (hl : l.length = n) (hx : x.length = m) (hq : n + m = q) (hm : q ≤ 1048576 + 1048576) :
    ∃ A1 c1 V1, (∀ ty, (Builtin.append_ #[39, 39] ty #[.slice A n c, .slice C m d]).run Try.prog V = .ok (.slice A1 q c1) V1) ∧ Mid V1 A1 c1 (l ++ x) ∧ Below V0.heap.size V0 V1 ∧ ∀ k, blk A1 = some k → V0.heap.size ≤ k := by
  obtain ⟨A1, c1, V1, r, m1, o, kin⟩ := h.app C d x hr (by omega)
  rw [hl, hx, List.length_append, hl, hx, hq] at r
  exact ⟨A1, c1, V1, r, m1, hb.trans (o.below hA hb.size), fun k hk => (kin k hk).elim (hA k) (fun h => Nat.le_trans hb.size h)⟩
theorem three_a (R : ∀ V, Below V0.heap.size V0 V → Rd V B (l.take i)) (R' : ∀ V, Below V0.heap.size V0 V → Rd V B' (l.drop i)) (hi : i ≤ n) (hl : l.length = n) (hn : n ≤ 1048576) (L : Nat) (hL : n + 1 = L) :
    ∃ A1 c1 V1, (∀ ty, (Builtin.append_ #[39, 39] ty #[.slice none 0 0, .slice B i cB]).run Try.prog V0 = .ok (.slice A1 i c1) V1) ∧
      ∃ A2 c2 V2, (∀ ty, (Builtin.append_ #[39, 39] ty #[.slice A1 i c1, .slice (some ⟨V1.heap.size, 0, none⟩) 1 1]).run Try.prog (laid V1 [y]) = .ok (.slice A2 (i + 1) c2) V2) ∧
        ∃ A3 c3 V3, (∀ ty, (Builtin.append_ #[39, 39] ty #[.slice A2 (i + 1) c2, .slice B' (n - i) d']).run Try.prog V2 = .ok (.slice A3 L c3) V3) ∧ Thrd V0 V3 A3 c3 (l.take i ++ y :: l.drop i) := by
  obtain ⟨A1, c1, V1, r1, m1, b1, k1⟩ := app_nil (d := cB) (R V0 (Below.refl _ _)) (by simp; omega : (l.take i).length = i) (by omega)
  have b1' : Below V0.heap.size V0 (laid V1 [y]) := b1.trans ((laid_below V1 [y]).mono b1.size)
  have m1' : Mid (laid V1 [y]) A1 c1 (l.take i) := m1.only (F := fun _ => False) (Only.of_below _ (laid_below V1 [y])) (fun _ _ h => h)
  obtain ⟨A2, c2, V2, r2, m2, b2, k2⟩ := app_own (d := 1) m1' k1 b1' (laid_rd V1 [y]) (by simp; omega : (l.take i).length = i) (m := 1) (q := i + 1) rfl rfl (by omega)
  obtain ⟨A3, c3, V3, r3, m3, b3, k3⟩ := app_own (d := d') m2 k2 b2 (R' V2 b2) (by simp; omega : (l.take i ++ [y]).length = i + 1) (by simp; omega : (l.drop i).length = n - i) (by omega : i + 1 + (n - i) = L) (by omega)
  rw [List.append_assoc] at m3
  exact ⟨A1, c1, V1, r1, A2, c2, V2, r2, A3, c3, V3, r3, m3, b3, k3⟩
theorem three_b (R : ∀ V, Below V0.heap.size V0 V → Rd V B (l.take i)) (R' : ∀ V, Below V0.heap.size V0 V → Rd V B' (l.drop i)) (hi : i ≤ n) (hl : l.length = n) (hn : n ≤ 1048576) (L : Nat) (hL : n + 1 = L) :
    ∃ A1 c1 V1, (∀ ty, (Builtin.append_ #[39, 39] ty #[.slice none 0 0, .slice B i cB]).run Try.prog (laid V0 [y]) = .ok (.slice A1 i c1) V1) ∧
      ∃ A2 c2 V2, (∀ ty, (Builtin.append_ #[39, 39] ty #[.slice A1 i c1, .slice (some ⟨V0.heap.size, 0, none⟩) 1 1]).run Try.prog V1 = .ok (.slice A2 (i + 1) c2) V2) ∧
        ∃ A3 c3 V3, (∀ ty, (Builtin.append_ #[39, 39] ty #[.slice A2 (i + 1) c2, .slice B' (n - i) d']).run Try.prog V2 = .ok (.slice A3 L c3) V3) ∧ Thrd V0 V3 A3 c3 (l.take i ++ y :: l.drop i) := by
  have b0 := laid_below V0 [y]
  obtain ⟨A1, c1, V1, r1, m1, b1, k1⟩ := app_nil (d := cB) (R _ b0) (by simp; omega : (l.take i).length = i) (by omega)
  have b1' : Below V0.heap.size V0 V1 := b0.trans (b1.mono b0.size)
  obtain ⟨A2, c2, V2, r2, m2, b2, k2⟩ := app_own (d := 1) m1 (fun k hk => Nat.le_trans b0.size (k1 k hk)) b1' ((laid_rd V0 [y]).below b1) (by simp; omega : (l.take i).length = i) (m := 1) (q := i + 1) rfl rfl (by omega)
  obtain ⟨A3, c3, V3, r3, m3, b3, k3⟩ := app_own (d := d') m2 k2 b2 (R' V2 b2) (by simp; omega : (l.take i ++ [y]).length = i + 1) (by simp; omega : (l.drop i).length = n - i) (by omega : i + 1 + (n - i) = L) (by omega)
  rw [List.append_assoc] at m3
  exact ⟨A1, c1, V1, r1, A2, c2, V2, r2, A3, c3, V3, r3, m3, b3, k3⟩
theorem three_aw (R : ∀ V, Below V0.heap.size V0 V → Rd V B (l.take i)) (R' : ∀ V, Below V0.heap.size V0 V → Rd V B' (l.drop i)) (hi : i ≤ n) (hl : l.length = n) (hn : n ≤ 1048576) (L : Nat) (hL : n + 1 = L) :
    ∃ A1 c1 V1, (∀ ty, (Builtin.append_ #[39, 39] ty #[.slice none 0 0, .slice B i cB]).run Try.prog V0 = .ok (.slice A1 i c1) V1) ∧
      ∃ A2 c2 V2, (∀ ty, (Builtin.append_ #[39, 39] ty #[.slice A1 i c1, .slice (some ⟨V1.heap.size, 0, none⟩) 1 1]).run Try.prog (laid V1 [y]) = .ok (.slice A2 (i + 1) c2) V2) ∧
        ∃ A3 c3 V3, (∀ ty, (Builtin.append_ #[39, 39] ty #[.slice A2 (i + 1) c2, .slice B' (n - i) d']).run Try.prog V2 = .ok (.slice A3 L c3) V3) ∧ (Thrd V0 V3 A3 c3 (l.take i ++ y :: l.drop i) ∧ Below V0.heap.size V0 V1 ∧ Below V0.heap.size V0 V2) := by
  obtain ⟨A1, c1, V1, r1, m1, b1, k1⟩ := app_nil (d := cB) (R V0 (Below.refl _ _)) (by simp; omega : (l.take i).length = i) (by omega)
  have b1' : Below V0.heap.size V0 (laid V1 [y]) := b1.trans ((laid_below V1 [y]).mono b1.size)
  have m1' : Mid (laid V1 [y]) A1 c1 (l.take i) := m1.only (F := fun _ => False) (Only.of_below _ (laid_below V1 [y])) (fun _ _ h => h)
  obtain ⟨A2, c2, V2, r2, m2, b2, k2⟩ := app_own (d := 1) m1' k1 b1' (laid_rd V1 [y]) (by simp; omega : (l.take i).length = i) (m := 1) (q := i + 1) rfl rfl (by omega)
  obtain ⟨A3, c3, V3, r3, m3, b3, k3⟩ := app_own (d := d') m2 k2 b2 (R' V2 b2) (by simp; omega : (l.take i ++ [y]).length = i + 1) (by simp; omega : (l.drop i).length = n - i) (by omega : i + 1 + (n - i) = L) (by omega)
  rw [List.append_assoc] at m3
  exact ⟨A1, c1, V1, r1, A2, c2, V2, r2, A3, c3, V3, r3, ⟨m3, b3, k3⟩, b1, b2⟩
theorem three_bw (R : ∀ V, Below V0.heap.size V0 V → Rd V B (l.take i)) (R' : ∀ V, Below V0.heap.size V0 V → Rd V B' (l.drop i)) (hi : i ≤ n) (hl : l.length = n) (hn : n ≤ 1048576) (L : Nat) (hL : n + 1 = L) :
    ∃ A1 c1 V1, (∀ ty, (Builtin.append_ #[39, 39] ty #[.slice none 0 0, .slice B i cB]).run Try.prog (laid V0 [y]) = .ok (.slice A1 i c1) V1) ∧
      ∃ A2 c2 V2, (∀ ty, (Builtin.append_ #[39, 39] ty #[.slice A1 i c1, .slice (some ⟨V0.heap.size, 0, none⟩) 1 1]).run Try.prog V1 = .ok (.slice A2 (i + 1) c2) V2) ∧
        ∃ A3 c3 V3, (∀ ty, (Builtin.append_ #[39, 39] ty #[.slice A2 (i + 1) c2, .slice B' (n - i) d']).run Try.prog V2 = .ok (.slice A3 L c3) V3) ∧ (Thrd V0 V3 A3 c3 (l.take i ++ y :: l.drop i) ∧ Below V0.heap.size V0 V1 ∧ Below V0.heap.size V0 V2) := by
  have b0 := laid_below V0 [y]
  obtain ⟨A1, c1, V1, r1, m1, b1, k1⟩ := app_nil (d := cB) (R _ b0) (by simp; omega : (l.take i).length = i) (by omega)
  have b1' : Below V0.heap.size V0 V1 := b0.trans (b1.mono b0.size)
  obtain ⟨A2, c2, V2, r2, m2, b2, k2⟩ := app_own (d := 1) m1 (fun k hk => Nat.le_trans b0.size (k1 k hk)) b1' ((laid_rd V0 [y]).below b1) (by simp; omega : (l.take i).length = i) (m := 1) (q := i + 1) rfl rfl (by omega)
  obtain ⟨A3, c3, V3, r3, m3, b3, k3⟩ := app_own (d := d') m2 k2 b2 (R' V2 b2) (by simp; omega : (l.take i ++ [y]).length = i + 1) (by simp; omega : (l.drop i).length = n - i) (by omega : i + 1 + (n - i) = L) (by omega)
  rw [List.append_assoc] at m3
  exact ⟨A1, c1, V1, r1, A2, c2, V2, r2, A3, c3, V3, r3, ⟨m3, b3, k3⟩, b1', b2⟩
end
end Go.Proofs.Ytdidmpimlodffaa

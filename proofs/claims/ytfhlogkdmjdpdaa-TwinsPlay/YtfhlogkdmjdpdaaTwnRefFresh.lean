/- Fresh of a table of the reference. Condition: it has heard at most 1000 numbers. -/
import Derived.Test.YtfhlogkdmjdpdaaTwnRef
namespace Go.Proofs.Ytfhlogkdmjdpdaa
open Go.RowKit
set_option linter.unusedVariables false

theorem ntU : NT 22 30 .u32 4 := ⟨Try.underlying22, by kernel_rfl, by decide⟩
/-- what Fresh leaves alone -/
def Fo (base b : Nat) : Nat → Prop := fun k => k = b ∨ base ≤ k
section
variable {w : World} {base b N : Nat} {m : Tb} {A : Option Addr} {c hi : Nat} {L : List Nat} {n : Nat}
theorem RT.one_row (hb : base ≤ w.heap.size) (x : Nat) : NOwn 30 .u32 (w.alloc (.cells #[.int .u32 (x : Int)] 30)) base (some ⟨w.heap.size, 0, none⟩) 1 [x] :=
  ⟨⟨rfl, .inr ⟨w.heap.size, 1, _, rfl, hb, heap_alloc_new w _, Nat.le_refl _, by decide, rfl, rfl⟩⟩, fun e => (by cases e)⟩
theorem only_b {v : World} (o : Only (fun k => k = b) w v) : Only (Fo base b) w v := o.mono (fun i _ h => .inl h)
theorem rfresh_first (h : RT w base b N m A c hi L) (hbase : base ≤ w.heap.size) (hk : m.kn = false) (hn : n < 4294967296) :
    Calls Try.prog 14 #[.pointer (some ⟨b, 0, none⟩), .int .u32 (n : Int)] w fun e w' => e = .returned (.bool true) ∧ RX w' base b (N + 1) (m.first n) ∧ Only (Fo base b) w w' := by
  have k0 := h.cells
  rw [hk] at k0
  have c1 := (rcell k0).2.1
  have z1 := frozen_of_row w b 1 _ _ k0
  have k1 := rset_kn k0 true
  have c2 := (rcell k1).2.2.1
  have z2 := frozen_of_row _ b 2 _ _ k1
  have k2 := rset_hi k1 n
  have hlt := lt_of_block k2
  have k3 := (Below.heap_alloc ((w.setCell ⟨b, 1, none⟩ (.bool true)).setCell ⟨b, 2, none⟩ (.int .u32 (n : Int))) (.cells #[.int .u32 (n : Int)] 30) b (by omega)).trans k2
  have c3 := (rcell k3).2.2.2
  have z3 := frozen_of_row _ b 3 _ _ k3
  have k4 := rset_came k3 (some ⟨w.heap.size, 0, none⟩) 1 1
  have hsz : ((w.setCell ⟨b, 1, none⟩ (.bool true)).setCell ⟨b, 2, none⟩ (.int .u32 (n : Int))).heap.size = w.heap.size := by simp [World.setCell]
  have FIN := Lib.hid (show RX ((((w.setCell ⟨b, 1, none⟩ (.bool true)).setCell ⟨b, 2, none⟩ (.int .u32 (n : Int))).alloc (.cells #[.int .u32 (n : Int)] 30)).setCell ⟨b, 3, none⟩ (.slice (some ⟨w.heap.size, 0, none⟩) 1 1)) base b (N + 1) (m.first n) ∧
      Only (Fo base b) w ((((w.setCell ⟨b, 1, none⟩ (.bool true)).setCell ⟨b, 2, none⟩ (.int .u32 (n : Int))).alloc (.cells #[.int .u32 (n : Int)] 30)).setCell ⟨b, 3, none⟩ (.slice (some ⟨w.heap.size, 0, none⟩) 1 1)) from by
    have hlow := h.low
    have own := RT.one_row (w := (w.setCell ⟨b, 1, none⟩ (.bool true)).setCell ⟨b, 2, none⟩ (.int .u32 (n : Int))) (base := base) (by rw [hsz]; exact hbase) n
    rw [hsz] at own
    refine ⟨⟨some ⟨w.heap.size, 0, none⟩, 1, n, [n], k4, own.only (only_put (Only.refl _ _) 3 _) (fun i hi e => ?_), hlow, by simp, ⟨h.ok.size, hn⟩, hn, fun _ => ⟨rfl, RL.first h.ok hn⟩, fun e => (by cases e)⟩, ?_⟩
    · injection hi with hi
      have hi' : w.heap.size = i := hi
      omega
    · exact only_b (only_put ((only_put (only_put (Only.refl _ w) _ _) _ _).alloc _) _ _))
  clear h k0 k1 k2 k3 k4 hlt hsz hk hbase hn
  go_enter Try.func14, Try.ntmps14
  go_wp2
  go_ret
  exact ⟨rfl, FIN.out⟩
theorem rfresh_same (h : RT w base b N m A c hi L) (hk : m.kn = true) (h0 : m.ahead n = 0) :
    Calls Try.prog 14 #[.pointer (some ⟨b, 0, none⟩), .int .u32 (n : Int)] w fun e w' => e = .returned (.bool false) ∧ w' = w := by
  have k0 := h.cells
  rw [hk, (h.yes hk).1] at k0
  obtain ⟨c0, c1, c2, c3⟩ := rcell k0
  have hh := h.ok.hi
  have hs := h.ok.size
  unfold Tb.ahead at h0
  have e1 : ((n : Int) - (m.hi : Int)) % 4294967296 = 0 := by omega
  have e1' : IntKind.u32.wrap ((n : Int) - (m.hi : Int)) = 0 := by rw [IntKind.wrap_u32]; omega
  have i2 : (m.S : Int) ≤ 4096 := by omega
  clear h hk h0 k0 hh hs
  go_enter Try.func14, Try.ntmps14
  go_wp2
  go_ret
  exact ⟨rfl, rfl⟩
theorem rfresh_far (h : RT w base b N m A c hi L) (hk : m.kn = true) (hn : n < 4294967296) (h0 : 2147483648 ≤ m.ahead n) (h1 : m.S ≤ m.behind n) :
    Calls Try.prog 14 #[.pointer (some ⟨b, 0, none⟩), .int .u32 (n : Int)] w fun e w' => e = .returned (.bool false) ∧ w' = w := by
  have k0 := h.cells
  rw [hk, (h.yes hk).1] at k0
  obtain ⟨c0, c1, c2, c3⟩ := rcell k0
  have hh := h.ok.hi
  have hs := h.ok.size
  have hal := m.ahead_lt n
  have hbl := m.behind_lt n
  have e1 : ((n : Int) - (m.hi : Int)) % 4294967296 = (m.ahead n : Int) := by unfold Tb.ahead; omega
  have e1' : IntKind.u32.wrap ((n : Int) - (m.hi : Int)) = (m.ahead n : Int) := by rw [IntKind.wrap_u32]; exact e1
  have e2 : ((m.hi : Int) - (n : Int)) % 4294967296 = (m.behind n : Int) := by unfold Tb.behind; omega
  have e2' : IntKind.u32.wrap ((m.hi : Int) - (n : Int)) = (m.behind n : Int) := by rw [IntKind.wrap_u32]; exact e2
  generalize m.ahead n = k at *
  generalize m.behind n = r at *
  have i2 : (m.S : Int) ≤ 4096 := by omega
  have b0 : ((k : Int) == 0) = false := by rw [beq_eq_false_iff_ne]; omega
  have b0' : (k == 0) = false := by rw [beq_eq_false_iff_ne]; omega
  have b1 : decide ((k : Int) < 2147483648) = false := by simp; omega
  have b1' : decide (k < 2147483648) = false := by simp; omega
  have b2 : decide ((m.S : Int) ≤ (r : Int)) = true := by simp; omega
  have b2' : decide (m.S ≤ r) = true := by simp; omega
  clear h hk h0 k0 hh hs h1 hal hbl hn
  go_enter Try.func14, Try.ntmps14
  go_wp2
  go_ret
  exact ⟨rfl, rfl⟩
end
end Go.Proofs.Ytfhlogkdmjdpdaa

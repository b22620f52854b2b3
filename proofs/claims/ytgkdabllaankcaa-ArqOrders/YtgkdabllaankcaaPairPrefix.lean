/- prefix: one row of strings is the beginning of another one; where a pair keeps its rows. No condition. -/
import Derived.Test.YtgkdabllaankcaaG15
import Derived.Deep.LoopGhost
import Derived.BigQuiet
namespace Go.Proofs.Ytgkdabllaankcaa
open Go.RowKit
set_option linter.unusedVariables false

section
variable {w v v' : World} {H F G : Nat → Prop} {P : Nat} {b : Bool → Nat} {p : Pr}
theorem PrOne.rHeard (h : PrOne H w v P b p) (i : Bool) : ∃ A c F, v.cell? ⟨P, 4 + i.toNat, none⟩ = some (.slice A (p.heard i).length c) ∧ StrP v F A c (p.heard i) := by
  obtain ⟨t, h, _⟩ := h
  obtain ⟨_, _, _, q, q1, q2, q3, q4⟩ := h
  refine ⟨q.B i, q.d i, _, ?_, q3 i⟩
  rw [cell_of_row v P _ _ _ (0, 0) q1]
  cases i <;> rfl
theorem PrOne.rSaid (h : PrOne H w v P b p) (i : Bool) : ∃ A c F, v.cell? ⟨P, 6 + i.toNat, none⟩ = some (.slice A (p.said i).length c) ∧ StrP v F A c (p.said i) := by
  obtain ⟨t, h, _⟩ := h
  obtain ⟨_, _, _, q, q1, q2, q3, q4⟩ := h
  refine ⟨q.C i, q.e i, _, ?_, q4 i⟩
  rw [cell_of_row v P _ _ _ (0, 0) q1]
  cases i <;> rfl
theorem StrP.at_ {A : Option Addr} {c : Nat} {l : List (List UInt8)} (h : StrP w F A c l) {k : Nat} (hk : k < l.length) : ∃ g off, A = some ⟨g, off, none⟩ ∧ w.cell? ⟨g, off + k, none⟩ = some (.string ⟨(l.getD k []).toArray⟩) := by
  refine h.1.at_ (v := strV (l.getD k [])) ?_
  rw [List.getElem?_map, List.getD_eq_getElem?_getD, List.getElem?_eq_getElem hk]
  rfl
set_option maxRecDepth 20000 in
set_option maxHeartbeats 1000000 in
theorem prefix_calls {A B : Option Addr} {c d : Nat} {l m : List (List UInt8)} (h1 : StrP w F A c l) (h2 : StrP w G B d m) (hp : l = m.take l.length) (hm : m.length ≤ 1000000) :
    Calls Try.prog 18 #[.slice A l.length c, .slice B m.length d] w fun e w' => e = .returned (.bool true) ∧ ∃ q, w' = w.drewN q := by
  have hle : l.length ≤ m.length := by
    have := congrArg List.length hp
    rw [List.length_take] at this
    omega
  have hat : ∀ k, k < l.length → m.getD k [] = l.getD k [] := fun k hk => by
    rw [List.getD_eq_getElem?_getD, List.getD_eq_getElem?_getD]
    conv => rhs; rw [hp]
    rw [List.getElem?_take_of_lt hk]
  have HA := Lib.hid (And.intro h1 (And.intro h2 hat))
  clear h1 h2 hp hat
  generalize hL : l.length = L at *
  generalize hM : m.length = M at *
  have HL := Lib.hid (And.intro hL hM)
  clear hL hM
  have i0 : decide ((M : Int) < (L : Int)) = false := decide_eq_false (by omega)
  have j0 : ¬ (M : Int) < (L : Int) := by omega
  go_enter Try.func18, Try.ntmps18
  go_wp2_with fail
  go_loopg [5] L (fun kx s wr => ∃ k : Nat, s = .int .i64 (k : Int) ∧ k ≤ L ∧ L - k ≤ kx ∧ Aside (∃ q, wr = w.drewN q))
  case atStart => exact ⟨0, rfl, by omega, by omega, 0, rfl⟩
  case round =>
    obtain ⟨k, rfl, hk, hkx, HQ⟩ := hrel
    have hcell : ∀ b, wr.cell? b = w.cell? b := fun b => by obtain ⟨q, hq⟩ := HQ.out; rw [hq]; rfl
    by_cases hkL : k < L
    · have g0 : (k : Int) < (L : Int) := by omega
      have g1 : (0 : Int) ≤ (k : Int) := by omega
      have g2 : (k : Int) < (M : Int) := by omega
      obtain ⟨ga, oa, rfl, k1⟩ := HA.out.1.at_ (k := k) (by rw [HL.out.1]; exact hkL)
      obtain ⟨gb, ob, rfl, k2⟩ := HA.out.2.1.at_ (k := k) (by rw [HL.out.2]; omega)
      rw [HA.out.2.2 k hkL] at k2
      rw [← hcell] at k1 k2
      clear hcell
      go_wp2_with fail
      go_quiet (fail)
      go_wp2
      go_roundg (L - (k + 1))
      case measure => omega
      case rel => exact ⟨k + 1, by go_num, by omega, Nat.le_refl _, (by obtain ⟨q, hq⟩ := HQ.out; exact ⟨q + nq, by rw [hq, World.drewN_drewN]⟩)⟩
    · have hkE : k = L := by omega
      subst hkE
      have g0 : ¬ (k : Int) < (k : Int) := by omega
      clear hcell
      go_wp2
      go_ret
      exact ⟨rfl, HQ.out⟩
end
end Go.Proofs.Ytgkdabllaankcaa

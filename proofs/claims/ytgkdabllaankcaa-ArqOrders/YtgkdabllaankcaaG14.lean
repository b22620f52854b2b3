/- Package arq walked, part 14 of 15 (merged texts: PairCarry, PairNew, PairUp, PairUpWalk, AqSent, CtlSay). No condition. -/
import Derived.Test.YtgkdabllaankcaaG13
import Derived.Test.YtgkdabllaankcaaG11
import Derived.Test.YtgkdabllaankcaaG12
import Derived.Test.YtgkdabllaankcaaG7
import Derived.Test.YtgkdabllaankcaaG4
import Derived.Test.YtgkdabllaankcaaG10
/- carry: the first that is under way from one end comes to the other one, or is lost. Condition: room for it. -/
namespace Go.Proofs.Ytgkdabllaankcaa
open Go.RowKit
set_option linter.unusedVariables false

section
variable {w v v' : World} {H G : Nat → Prop} {P : Nat} {b : Bool → Nat} {p : Pr}
theorem AqOne.input' {bb : Nat} {s : Aq} (h : AqOne H w v bb s) (hr : s.Room) (X : Option Addr) (e : Nat) (x : List UInt8) (hrd : Rd v X x) (hx : x.length ≤ 90000) (hxe : x.length ≤ e) (he : e ≤ 9223372036854775807) (hX : ∀ i, blk X = some i → H i) :
    Calls Try.prog 21 #[.pointer (some ⟨bb, 0, none⟩), .slice X x.length e] v fun e v' => e = .returned (.tuple #[]) ∧ AqOne H w v' bb (s.input x) ∧ Kept H v v' := h.call fun F hp hd => aqInput_calls hp hr x hrd hx hxe he (fun i hi hF => hd i hF (hX i hi))
theorem Pr.carry_nil {i : Bool} {lost : Bool} (hw : p.way i = []) : p.carry i lost = p := by unfold Pr.carry; rw [hw]
theorem Pr.carry_cons {i : Bool} {lost : Bool} {x : List UInt8} {l : List (List UInt8)} (hw : p.way i = x :: l) : p.carry i lost = (if lost then p.setWay i l else (p.setWay i l).setA (!i) ((p.a (!i)).input x)).collect := by unfold Pr.carry; rw [hw]
set_option maxRecDepth 20000 in
set_option maxHeartbeats 2000000 in
theorem carry_zero (h : PrOne H w v P b p) (lost : Bool) (hr : ∀ x l, p.way false = x :: l → (p.a true).Room ∧ x.length ≤ 90000 ∧ (if lost then p.setWay false l else (p.setWay false l).setA true ((p.a true).input x)).Room) :
    Calls Try.prog 15 #[.pointer (some ⟨P, 0, none⟩), .int .i64 0, .bool lost] v fun e v' => e = .returned (.tuple #[]) ∧ PrOne H w v' P b (p.carry false lost) ∧ Kept H v v' := by
  cases hw : p.way false with
  | nil =>
    obtain ⟨A, c, k⟩ := h.cWay false
    rw [hw] at k
    have k : v.cell? ⟨P, 2, none⟩ = some (.slice A 0 c) := k
    rw [Pr.carry_nil hw]
    have FI := Lib.hid (show PrOne H w v P b p ∧ Kept H v v from ⟨h, Kept.refl⟩)
    clear h hr hw
    go_enter Try.func15, Try.ntmps15
    go_wp2
    go_end0
    exact ⟨rfl, FI.out⟩
  | cons x l =>
    obtain ⟨r1, r2, r3⟩ := hr x l hw
    obtain ⟨g, off, c, B, d, k1, k2, b1, b2, b3, b4, FST⟩ := (h.drewN 1).first false hw
    have k1 : v.cell? ⟨P, 2, none⟩ = some (.slice (some ⟨g, off, none⟩) (l.length + 1) c) := k1
    have k2 : v.cell? ⟨g, off, none⟩ = some (.slice B x.length d) := k2
    have z1 : v.frozen? ⟨P, 2, none⟩ = false := h.z 2
    have p1 : v.cell? ⟨P, 1, none⟩ = some (.pointer (some ⟨b true, 0, none⟩)) := h.ptr true
    rw [Pr.carry_cons hw]
    have q1 : decide ((0 : Int) < ((l.length : Int) + 1)) = true := decide_eq_true (by omega)
    have hl : lost = true → (p.setWay false l).Room := fun e => by rw [e] at r3; exact r3
    have hl2 : lost = false → ((p.setWay false l).setA true ((p.a true).input x)).Room := fun e => by rw [e] at r3; exact r3
    have hcz : (1 : Int) ≤ (c : Int) := by omega
    have HA : Aside (∀ C V1, C = (if c = 1 then some ⟨g, off, none⟩ else some ⟨g, off + 1, none⟩) → v.drew.setCell ⟨P, 2, none⟩ (.slice C l.length (c - 1)) = V1 →
        (lost = true → Calls Try.prog 16 #[.pointer (some ⟨P, 0, none⟩)] V1 fun e v' => e = .returned (.tuple #[]) ∧ PrOne H w v' P b (p.setWay false l).collect ∧ Kept H v v') ∧
        (lost = false → V1.cell? ⟨P, 1, none⟩ = some (.pointer (some ⟨b true, 0, none⟩)) ∧ Calls Try.prog 21 #[.pointer (some ⟨b true, 0, none⟩), .slice B x.length d] V1 fun e v2 => e = .returned (.tuple #[]) ∧
          Calls Try.prog 16 #[.pointer (some ⟨P, 0, none⟩)] v2 fun e v' => e = .returned (.tuple #[]) ∧ PrOne H w v' P b ((p.setWay false l).setA true ((p.a true).input x)).collect ∧ Kept H v v')) := by
      intro C V1 hC hV
      obtain ⟨o1, K1, ACT⟩ := FST C V1 hC hV
      have K0 := (Kept.drewN (H := H) (v := v) 1)
      refine ⟨fun e => (collect_calls o1 (hl e)).mono ?_, fun e => ⟨o1.ptr true, (ACT _ (fun H' oA rd hB => oA.input' r1 B d x rd r2 b1 (by unfold maxLen at b2; omega) hB)).mono ?_⟩⟩
      · rintro e v' ⟨rfl, o, k⟩
        exact ⟨rfl, o, K0.trans (K1.trans k)⟩
      · rintro e2 v2 ⟨rfl, o2, K2⟩
        refine ⟨rfl, (collect_calls o2 (hl2 e)).mono ?_⟩
        rintro e v' ⟨rfl, o, k⟩
        exact ⟨rfl, o, K0.trans (K2.trans k)⟩
    have eQ : (if lost = true then p.setWay false l else (p.setWay false l).setA true ((p.a true).input x)).collect = if lost = true then (p.setWay false l).collect else ((p.setWay false l).setA true ((p.a true).input x)).collect := by cases lost <;> rfl
    show Calls _ _ _ _ fun e v' => e = _ ∧ PrOne H w v' P b (if lost = true then p.setWay false l else (p.setWay false l).setA true ((p.a true).input x)).collect ∧ Kept H v v'
    rw [eQ]
    clear eQ
    clear h hr hw FST hl hl2 r1 r2 r3 b1 b2
    generalize (p.setWay false l).collect = Q1 at *
    generalize ((p.setWay false l).setA true ((p.a true).input x)).collect = Q2 at *
    generalize l.length = L at *
    generalize x.length = N at *
    have hs0 : (0 : Int) ≤ (L : Int) := by omega
    have hs1 : (1 : Int) ≤ (L : Int) + 1 := by omega
    have hs2 : (L : Int) + 1 ≤ (c : Int) := by omega
    by_cases hc : c = 1
    · clear hs0 hs1 hs2
      subst hc
      have hn : L = 0 := by omega
      subst hn
      obtain ⟨V1, hV1⟩ : ∃ V1, v.drew.setCell ⟨P, 2, none⟩ (.slice (some ⟨g, off, none⟩) 0 0) = V1 := ⟨_, rfl⟩
      obtain ⟨F1, F2⟩ := HA (some ⟨g, off, none⟩) V1 rfl hV1
      clear HA
      cases lost
      · obtain ⟨p2, IC⟩ := F2 rfl
        clear F1 F2
        go_enter Try.func15, Try.ntmps15
        go_wp2_with fail
        refine wp_region_still_tail 12 (by kernel_rfl) (by kernel_rfl) ?_
        simp only [List.take_succ_cons, List.take_zero, List.drop_succ_cons, List.drop_zero]
        repeat still_step
        refine wpStill_nil ?_
        change wpList _ _ _ _ _ v.drew
        go_wp2_with fail
        refine IC.mono ?_
        rintro e2 v2 ⟨rfl, CC⟩
        go_wp2_with fail
        refine CC.mono ?_
        rintro e3 v3 ⟨rfl, FI⟩
        have FJ := Lib.hid FI
        clear FI
        go_wp2
        go_end0
        exact ⟨rfl, FJ.out⟩
      · have CC := F1 rfl
        clear F1 F2
        go_enter Try.func15, Try.ntmps15
        go_wp2_with fail
        refine wp_region_still_tail 12 (by kernel_rfl) (by kernel_rfl) ?_
        simp only [List.take_succ_cons, List.take_zero, List.drop_succ_cons, List.drop_zero]
        repeat still_step
        refine wpStill_nil ?_
        change wpList _ _ _ _ _ v.drew
        go_wp2_with fail
        refine CC.mono ?_
        rintro e3 v3 ⟨rfl, FI⟩
        have FJ := Lib.hid FI
        clear FI
        go_wp2
        go_end0
        exact ⟨rfl, FJ.out⟩
    · obtain ⟨V1, hV1⟩ : ∃ V1, v.drew.setCell ⟨P, 2, none⟩ (.slice (some ⟨g, off + 1, none⟩) L (c - 1)) = V1 := ⟨_, rfl⟩
      obtain ⟨F1, F2⟩ := HA (some ⟨g, off + 1, none⟩) V1 (by rw [if_neg hc]) hV1
      clear HA
      cases lost
      · obtain ⟨p2, IC⟩ := F2 rfl
        clear F1 F2
        go_enter Try.func15, Try.ntmps15
        go_wp2_with fail
        refine wp_region_still_tail 12 (by kernel_rfl) (by kernel_rfl) ?_
        simp only [List.take_succ_cons, List.take_zero, List.drop_succ_cons, List.drop_zero]
        repeat still_step
        refine wpStill_nil ?_
        change wpList _ _ _ _ _ v.drew
        go_wp2_with fail
        refine IC.mono ?_
        rintro e2 v2 ⟨rfl, CC⟩
        go_wp2_with fail
        refine CC.mono ?_
        rintro e3 v3 ⟨rfl, FI⟩
        have FJ := Lib.hid FI
        clear FI
        go_wp2
        go_end0
        exact ⟨rfl, FJ.out⟩
      · have CC := F1 rfl
        clear F1 F2
        go_enter Try.func15, Try.ntmps15
        go_wp2_with fail
        refine wp_region_still_tail 12 (by kernel_rfl) (by kernel_rfl) ?_
        simp only [List.take_succ_cons, List.take_zero, List.drop_succ_cons, List.drop_zero]
        repeat still_step
        refine wpStill_nil ?_
        change wpList _ _ _ _ _ v.drew
        go_wp2_with fail
        refine CC.mono ?_
        rintro e3 v3 ⟨rfl, FI⟩
        have FJ := Lib.hid FI
        clear FI
        go_wp2
        go_end0
        exact ⟨rfl, FJ.out⟩
set_option maxRecDepth 20000 in
set_option maxHeartbeats 2000000 in
theorem carry_one (h : PrOne H w v P b p) (lost : Bool) (hr : ∀ x l, p.way true = x :: l → (p.a false).Room ∧ x.length ≤ 90000 ∧ (if lost then p.setWay true l else (p.setWay true l).setA false ((p.a false).input x)).Room) :
    Calls Try.prog 15 #[.pointer (some ⟨P, 0, none⟩), .int .i64 1, .bool lost] v fun e v' => e = .returned (.tuple #[]) ∧ PrOne H w v' P b (p.carry true lost) ∧ Kept H v v' := by
  cases hw : p.way true with
  | nil =>
    obtain ⟨A, c, k⟩ := h.cWay true
    rw [hw] at k
    have k : v.cell? ⟨P, 3, none⟩ = some (.slice A 0 c) := k
    rw [Pr.carry_nil hw]
    have FI := Lib.hid (show PrOne H w v P b p ∧ Kept H v v from ⟨h, Kept.refl⟩)
    clear h hr hw
    go_enter Try.func15, Try.ntmps15
    go_wp2
    go_end0
    exact ⟨rfl, FI.out⟩
  | cons x l =>
    obtain ⟨r1, r2, r3⟩ := hr x l hw
    obtain ⟨g, off, c, B, d, k1, k2, b1, b2, b3, b4, FST⟩ := (h.drewN 1).first true hw
    have k1 : v.cell? ⟨P, 3, none⟩ = some (.slice (some ⟨g, off, none⟩) (l.length + 1) c) := k1
    have k2 : v.cell? ⟨g, off, none⟩ = some (.slice B x.length d) := k2
    have z1 : v.frozen? ⟨P, 3, none⟩ = false := h.z 3
    have p1 : v.cell? ⟨P, 0, none⟩ = some (.pointer (some ⟨b false, 0, none⟩)) := h.ptr false
    rw [Pr.carry_cons hw]
    have q1 : decide ((0 : Int) < ((l.length : Int) + 1)) = true := decide_eq_true (by omega)
    have hl : lost = true → (p.setWay true l).Room := fun e => by rw [e] at r3; exact r3
    have hl2 : lost = false → ((p.setWay true l).setA false ((p.a false).input x)).Room := fun e => by rw [e] at r3; exact r3
    have hcz : (1 : Int) ≤ (c : Int) := by omega
    have HA : Aside (∀ C V1, C = (if c = 1 then some ⟨g, off, none⟩ else some ⟨g, off + 1, none⟩) → v.drew.setCell ⟨P, 3, none⟩ (.slice C l.length (c - 1)) = V1 →
        (lost = true → Calls Try.prog 16 #[.pointer (some ⟨P, 0, none⟩)] V1 fun e v' => e = .returned (.tuple #[]) ∧ PrOne H w v' P b (p.setWay true l).collect ∧ Kept H v v') ∧
        (lost = false → V1.cell? ⟨P, 0, none⟩ = some (.pointer (some ⟨b false, 0, none⟩)) ∧ Calls Try.prog 21 #[.pointer (some ⟨b false, 0, none⟩), .slice B x.length d] V1 fun e v2 => e = .returned (.tuple #[]) ∧
          Calls Try.prog 16 #[.pointer (some ⟨P, 0, none⟩)] v2 fun e v' => e = .returned (.tuple #[]) ∧ PrOne H w v' P b ((p.setWay true l).setA false ((p.a false).input x)).collect ∧ Kept H v v')) := by
      intro C V1 hC hV
      obtain ⟨o1, K1, ACT⟩ := FST C V1 hC hV
      have K0 := (Kept.drewN (H := H) (v := v) 1)
      refine ⟨fun e => (collect_calls o1 (hl e)).mono ?_, fun e => ⟨o1.ptr false, (ACT _ (fun H' oA rd hB => oA.input' r1 B d x rd r2 b1 (by unfold maxLen at b2; omega) hB)).mono ?_⟩⟩
      · rintro e v' ⟨rfl, o, k⟩
        exact ⟨rfl, o, K0.trans (K1.trans k)⟩
      · rintro e2 v2 ⟨rfl, o2, K2⟩
        refine ⟨rfl, (collect_calls o2 (hl2 e)).mono ?_⟩
        rintro e v' ⟨rfl, o, k⟩
        exact ⟨rfl, o, K0.trans (K2.trans k)⟩
    have eQ : (if lost = true then p.setWay true l else (p.setWay true l).setA false ((p.a false).input x)).collect = if lost = true then (p.setWay true l).collect else ((p.setWay true l).setA false ((p.a false).input x)).collect := by cases lost <;> rfl
    show Calls _ _ _ _ fun e v' => e = _ ∧ PrOne H w v' P b (if lost = true then p.setWay true l else (p.setWay true l).setA false ((p.a false).input x)).collect ∧ Kept H v v'
    rw [eQ]
    clear eQ
    clear h hr hw FST hl hl2 r1 r2 r3 b1 b2
    generalize (p.setWay true l).collect = Q1 at *
    generalize ((p.setWay true l).setA false ((p.a false).input x)).collect = Q2 at *
    generalize l.length = L at *
    generalize x.length = N at *
    have hs0 : (0 : Int) ≤ (L : Int) := by omega
    have hs1 : (1 : Int) ≤ (L : Int) + 1 := by omega
    have hs2 : (L : Int) + 1 ≤ (c : Int) := by omega
    by_cases hc : c = 1
    · clear hs0 hs1 hs2
      subst hc
      have hn : L = 0 := by omega
      subst hn
      obtain ⟨V1, hV1⟩ : ∃ V1, v.drew.setCell ⟨P, 3, none⟩ (.slice (some ⟨g, off, none⟩) 0 0) = V1 := ⟨_, rfl⟩
      obtain ⟨F1, F2⟩ := HA (some ⟨g, off, none⟩) V1 rfl hV1
      clear HA
      cases lost
      · obtain ⟨p2, IC⟩ := F2 rfl
        clear F1 F2
        go_enter Try.func15, Try.ntmps15
        go_wp2_with fail
        refine wp_region_still_tail 12 (by kernel_rfl) (by kernel_rfl) ?_
        simp only [List.take_succ_cons, List.take_zero, List.drop_succ_cons, List.drop_zero]
        repeat still_step
        refine wpStill_nil ?_
        change wpList _ _ _ _ _ v.drew
        go_wp2_with fail
        refine IC.mono ?_
        rintro e2 v2 ⟨rfl, CC⟩
        go_wp2_with fail
        refine CC.mono ?_
        rintro e3 v3 ⟨rfl, FI⟩
        have FJ := Lib.hid FI
        clear FI
        go_wp2
        go_end0
        exact ⟨rfl, FJ.out⟩
      · have CC := F1 rfl
        clear F1 F2
        go_enter Try.func15, Try.ntmps15
        go_wp2_with fail
        refine wp_region_still_tail 12 (by kernel_rfl) (by kernel_rfl) ?_
        simp only [List.take_succ_cons, List.take_zero, List.drop_succ_cons, List.drop_zero]
        repeat still_step
        refine wpStill_nil ?_
        change wpList _ _ _ _ _ v.drew
        go_wp2_with fail
        refine CC.mono ?_
        rintro e3 v3 ⟨rfl, FI⟩
        have FJ := Lib.hid FI
        clear FI
        go_wp2
        go_end0
        exact ⟨rfl, FJ.out⟩
    · obtain ⟨V1, hV1⟩ : ∃ V1, v.drew.setCell ⟨P, 3, none⟩ (.slice (some ⟨g, off + 1, none⟩) L (c - 1)) = V1 := ⟨_, rfl⟩
      obtain ⟨F1, F2⟩ := HA (some ⟨g, off + 1, none⟩) V1 (by rw [if_neg hc]) hV1
      clear HA
      cases lost
      · obtain ⟨p2, IC⟩ := F2 rfl
        clear F1 F2
        go_enter Try.func15, Try.ntmps15
        go_wp2_with fail
        refine wp_region_still_tail 12 (by kernel_rfl) (by kernel_rfl) ?_
        simp only [List.take_succ_cons, List.take_zero, List.drop_succ_cons, List.drop_zero]
        repeat still_step
        refine wpStill_nil ?_
        change wpList _ _ _ _ _ v.drew
        go_wp2_with fail
        refine IC.mono ?_
        rintro e2 v2 ⟨rfl, CC⟩
        go_wp2_with fail
        refine CC.mono ?_
        rintro e3 v3 ⟨rfl, FI⟩
        have FJ := Lib.hid FI
        clear FI
        go_wp2
        go_end0
        exact ⟨rfl, FJ.out⟩
      · have CC := F1 rfl
        clear F1 F2
        go_enter Try.func15, Try.ntmps15
        go_wp2_with fail
        refine wp_region_still_tail 12 (by kernel_rfl) (by kernel_rfl) ?_
        simp only [List.take_succ_cons, List.take_zero, List.drop_succ_cons, List.drop_zero]
        repeat still_step
        refine wpStill_nil ?_
        change wpList _ _ _ _ _ v.drew
        go_wp2_with fail
        refine CC.mono ?_
        rintro e3 v3 ⟨rfl, FI⟩
        have FJ := Lib.hid FI
        clear FI
        go_wp2
        go_end0
        exact ⟨rfl, FJ.out⟩
end
end Go.Proofs.Ytgkdabllaankcaa
/- Two new ends in a pair. No condition. -/
namespace Go.Proofs.Ytgkdabllaankcaa
open Go.RowKit
set_option linter.unusedVariables false

/-- a pair whose ends are not there yet -/
def pr0 (x y : Option Addr) : Array Value := #[.pointer x, .pointer y, .slice none 0 0, .slice none 0 0, .slice none 0 0, .slice none 0 0, .slice none 0 0, .slice none 0 0, .int .i64 0]
def Half (H : Nat → Prop) (w v : World) (P : Nat) (x : Option Addr) (F : Nat → Prop) : Prop :=
  v.heap[P]? = some (.cells (pr0 x none) 36 (0, 0)) ∧ (w.heap.size ≤ P ∧ ¬ H P) ∧ (∀ k, F k → w.heap.size ≤ k ∧ ¬ H k ∧ k ≠ P) ∧ Below w.heap.size w v ∧ ∀ k, H k → k < v.heap.size
section
variable {w v v' : World} {H F F1 : Nat → Prop} {P b0 b1 : Nat} {x y : Option Addr} {c0 c1 : Cf} {e : Ending} {s0 s1 : Aq}
theorem Half.drewN (h : Half H w v P x F) (n : Nat) : Half H w (v.drewN n) P x F := ⟨h.1, h.2.1, h.2.2.1, h.2.2.2.1.trans ⟨rfl, rfl, rfl, Nat.le_refl _, fun _ _ => rfl⟩, h.2.2.2.2⟩
theorem Half.alloc (bel : Below w.heap.size w v) (hH : ∀ k, H k → k < v.heap.size) : Half H w (v.alloc (.cells (pr0 none none) 36)) v.heap.size none (fun _ => False) := by
  have h1 : (v.alloc (.cells (pr0 none none) 36)).heap.size = v.heap.size + 1 := Array.size_push ..
  refine ⟨?_, ⟨bel.size, fun h => by have := hH _ h; omega⟩, fun _ h => h.elim, bel.alloc bel.size _, fun k hk => by have := hH k hk; omega⟩
  show (v.heap.push _)[v.heap.size]? = _
  simp
theorem Half.only {G : Nat → Prop} (h : Half H w v P x F) (on : Only G v v') (hG : ∀ k, G k → w.heap.size ≤ k ∧ ¬ H k ∧ k ≠ P) : Half H w v' P x F :=
  ⟨(on.block P (lt_of_block h.1) (fun e => (hG P e).2.2 rfl)).trans h.1, h.2.1, h.2.2.1, h.2.2.2.1.trans (on.below (fun k hk => (hG k hk).1) h.2.2.2.1.size), fun k hk => Nat.lt_of_lt_of_le (h.2.2.2.2 k hk) on.size⟩
theorem Half.cell0 (h : Half H w v P x F) : v.cell? ⟨P, 0, none⟩ = some (.pointer x) := cell_of_row v P 0 _ _ (0, 0) h.1
theorem Half.cell1 (h : Half H w v P x F) : v.cell? ⟨P, 1, none⟩ = some (.pointer none) := cell_of_row v P 1 _ _ (0, 0) h.1
theorem Half.z (h : Half H w v P x F) (j : Nat) : v.frozen? ⟨P, j, none⟩ = false := frozen_of_row v P j _ _ h.1
theorem Half.new (h : Half H w v P x F) (hm : AqMade c0 v e v') : ∃ b G, e = .returned (.pointer (some ⟨b, 0, none⟩)) ∧ AqP v' G b (Aq.newC c0) ∧ (∀ k, G k → v.heap.size ≤ k) ∧ Half H w v' P x F ∧ Below v.heap.size v v' := by
  obtain ⟨b, G, rfl, hp, hG, hb⟩ := hm
  exact ⟨b, G, rfl, hp, hG, h.only (G := fun _ => False) (Only.of_below _ hb) (fun _ h => h.elim), hb⟩
/-- the first is made -/
def Half1 (H : Nat → Prop) (w v : World) (P b0 : Nat) (c0 : Cf) (x : Option Addr) : Prop := ∃ F, Half H w v P x F ∧ AqP v F b0 (Aq.newC c0)
theorem Half1.drewN (h : Half1 H w v P b0 c0 x) (n : Nat) : Half1 H w (v.drewN n) P b0 c0 x := by
  obtain ⟨F, h1, h2⟩ := h
  exact ⟨F, h1.drewN n, h2.only (G := fun _ => False) ⟨rfl, rfl, rfl, Nat.le_refl _, fun _ _ _ => rfl⟩ (fun _ _ h => h)⟩
theorem Half.made (h : Half H w v P none (fun _ => False)) (hm : AqMade c0 v e v') : ∃ b, e = .returned (.pointer (some ⟨b, 0, none⟩)) ∧ Half1 H w v' P b c0 none := by
  have hb := h.2.2.2.1
  have hP := lt_of_block h.1
  have hH := h.2.2.2.2
  obtain ⟨b, G, rfl, hp, hG, h', _⟩ := h.new hm
  refine ⟨b, rfl, G, ⟨h'.1, h'.2.1, fun k hk => ⟨Nat.le_trans hb.size (hG k hk), fun hh => ?_, fun hh => ?_⟩, h'.2.2.2⟩, hp⟩
  · have := hH k hh; have := hG k hk; omega
  · have := hG k hk; omega
theorem Half1.store (h : Half1 H w v P b0 c0 none) : v.cell? ⟨P, 0, none⟩ = some (.pointer none) ∧ v.frozen? ⟨P, 0, none⟩ = false ∧ Half1 H w (v.setCell ⟨P, 0, none⟩ (.pointer (some ⟨b0, 0, none⟩))) P b0 c0 (some ⟨b0, 0, none⟩) := by
  obtain ⟨F, h1, h2⟩ := h
  have on := only_set v ⟨P, 0, none⟩ (.pointer (some ⟨b0, 0, none⟩))
  refine ⟨h1.cell0, h1.z 0, F, ⟨?_, h1.2.1, h1.2.2.1, h1.2.2.2.1.trans (on.below (fun k hk => by rw [show k = P from hk]; exact h1.2.1.1) h1.2.2.2.1.size), fun k hk => Nat.lt_of_lt_of_le (h1.2.2.2.2 k hk) on.size⟩, h2.only on (fun k hk e => (h1.2.2.1 k hk).2.2 e)⟩
  rw [heap_setCell_same v P _ _ _ _ h1.1]
  rfl
/-- both are made -/
def Half3 (H : Nat → Prop) (w v : World) (P b0 b1 : Nat) (c0 c1 : Cf) : Prop := ∃ F F1, Half H w v P (some ⟨b0, 0, none⟩) F ∧ AqP v F b0 (Aq.newC c0) ∧ AqP v F1 b1 (Aq.newC c1) ∧ ∀ k, F1 k → w.heap.size ≤ k ∧ ¬ H k ∧ k ≠ P ∧ ¬ F k
theorem Half1.made (h : Half1 H w v P b0 c0 (some ⟨b0, 0, none⟩)) (hm : AqMade c1 v e v') : ∃ b, e = .returned (.pointer (some ⟨b, 0, none⟩)) ∧ Half3 H w v' P b0 b c0 c1 := by
  obtain ⟨F, h, h2⟩ := h
  have hb := h.2.2.2.1
  have hP := lt_of_block h.1
  have hH := h.2.2.2.2
  obtain ⟨b, G, rfl, hp, hG, h', hbb⟩ := h.new hm
  refine ⟨b, rfl, F, G, h', h2.only (G := fun _ => False) (Only.of_below _ hbb) (fun _ _ h => h), hp, fun k hk => ⟨Nat.le_trans hb.size (hG k hk), fun hh => ?_, fun hh => ?_, fun hh => ?_⟩⟩
  · have := hH k hh; have := hG k hk; omega
  · have := hG k hk; omega
  · have := h2.lt k hh; have := hG k hk; omega
theorem Half3.drewN (h : Half3 H w v P b0 b1 c0 c1) (n : Nat) : Half3 H w (v.drewN n) P b0 b1 c0 c1 := by
  obtain ⟨F, F1, h1, h2, h3, h4⟩ := h
  exact ⟨F, F1, h1.drewN n, h2.only (G := fun _ => False) ⟨rfl, rfl, rfl, Nat.le_refl _, fun _ _ _ => rfl⟩ (fun _ _ h => h), h3.only (G := fun _ => False) ⟨rfl, rfl, rfl, Nat.le_refl _, fun _ _ _ => rfl⟩ (fun _ _ h => h), h4⟩
open Classical in
theorem Half3.store (h : Half3 H w v P b0 b1 c0 c1) : v.cell? ⟨P, 1, none⟩ = some (.pointer none) ∧ v.frozen? ⟨P, 1, none⟩ = false ∧ PrOne H w (v.setCell ⟨P, 1, none⟩ (.pointer (some ⟨b1, 0, none⟩))) P (fun i => if i then b1 else b0) (Pr.start (Aq.newC c0) (Aq.newC c1)) := by
  obtain ⟨F, F1, h1, h2, h3, h4⟩ := h
  have on := only_set v ⟨P, 1, none⟩ (.pointer (some ⟨b1, 0, none⟩))
  have hF := h1.2.2.1
  have hP := lt_of_block h1.1
  have h2' := h2.only on (fun k hk e => (hF k hk).2.2 e)
  have h3' := h3.only on (fun k hk e => (h4 k hk).2.2.1 e)
  have t0 : ∀ k, (if k = P then Lb.me else if F k then .en false else if F1 k then .en true else .no) = .en false ↔ F k := fun k => by
    constructor
    · intro h
      split at h
      · cases h
      · split at h
        · assumption
        · split at h <;> cases h
    · intro h
      rw [if_neg (hF k h).2.2, if_pos h]
  have t1 : ∀ k, (if k = P then Lb.me else if F k then .en false else if F1 k then .en true else .no) = .en true ↔ F1 k := fun k => by
    constructor
    · intro h
      split at h
      · cases h
      · split at h
        · cases h
        · split at h
          · assumption
          · cases h
    · intro h
      rw [if_neg (h4 k h).2.2.1, if_neg (h4 k h).2.2.2, if_pos h]
  have tn : ∀ k, (if k = P then Lb.me else if F k then .en false else if F1 k then .en true else .no) ≠ .no → k = P ∨ F k ∨ F1 k := fun k h => by
    by_cases e : k = P
    · exact .inl e
    · by_cases e2 : F k
      · exact .inr (.inl e2)
      · by_cases e3 : F1 k
        · exact .inr (.inr e3)
        · rw [if_neg e, if_neg e2, if_neg e3] at h
          exact (h rfl).elim
  refine ⟨h1.cell1, h1.z 1, fun k => if k = P then Lb.me else if F k then .en false else if F1 k then .en true else .no, ⟨if_pos rfl, fun i => ?_, fun k hk => ?_, ⟨fun _ => none, fun _ => 0, fun _ => none, fun _ => 0, fun _ => none, fun _ => 0⟩, ?_, ?_, ?_, ?_⟩, fun k hk => ?_, h1.2.2.2.1.trans (on.below (fun k hk => by rw [show k = P from hk]; exact h1.2.1.1) h1.2.2.2.1.size), fun k hk => Nat.lt_of_lt_of_le (h1.2.2.2.2 k hk) on.size⟩
  · cases i
    · rw [show (fun k => (if k = P then Lb.me else if F k then .en false else if F1 k then .en true else .no) = .en false) = F from funext fun k => propext (t0 k)]
      exact h2'
    · rw [show (fun k => (if k = P then Lb.me else if F k then .en false else if F1 k then .en true else .no) = .en true) = F1 from funext fun k => propext (t1 k)]
      exact h3'
  · rcases tn k hk with rfl | h | h
    · exact Nat.lt_of_lt_of_le hP on.size
    · exact h2'.lt k h
    · exact h3'.lt k h
  · rw [heap_setCell_same v P _ _ _ _ h1.1]
    rfl
  · exact fun i => ⟨[], MidV.nil _ _, trivial, fun k hk => by simp [blk] at hk⟩
  · exact fun i => ⟨MidV.nil _ _, fun k hk => by simp [blk] at hk⟩
  · exact fun i => ⟨MidV.nil _ _, fun k hk => by simp [blk] at hk⟩
  · rcases tn k hk with rfl | h | h
    · exact h1.2.1
    · exact ⟨(hF k h).1, (hF k h).2.1⟩
    · exact ⟨(h4 k h).1, (h4 k h).2.1⟩
end
end Go.Proofs.Ytgkdabllaankcaa
/- Two ends of one session, plainly: what up makes. No condition. -/
namespace Go.Proofs.Ytgkdabllaankcaa
set_option linter.unusedVariables false

/-- an end that is Up in its first session -/
def upS (c : Cf) : Aq := { Aq.newC c with st := 2, tg := 1 }
def upP (c : Cf) : Pr := ⟨fun _ => upS c, fun _ => [], fun _ => [], fun _ => [], 0⟩
theorem rd_open : ∀ M : Nat, M = 128 ∨ M = 32768 → rdC (enc 3 0 0 true M) M = ((3, 0, 0, true), ((enc 3 0 0 true M).length : Int), 0) ∧ rdC (enc 4 0 0 true M) M = ((4, 0, 0, true), ((enc 4 0 0 true M).length : Int), 0) ∧ (enc 3 0 0 true M).length = 1 ∧ (enc 4 0 0 true M).length = 1 := by
  rintro M (rfl | rfl) <;> decide +kernel
/-- the first end waits, the other one is new -/
def upA (c : Cf) : Aq := { Aq.newC c with st := 1, tg := 1, lf := (Aq.newC c).t1 }
def up0 (c : Cf) : Pr := ⟨fun i => if i then Aq.newC c else upA c, fun i => if i then [] else [Aq.hd 1 ++ enc 3 0 0 true (Aq.newC c).m ++ []], fun _ => [], fun _ => [], 0⟩
def up1 (c : Cf) : Pr := ⟨fun i => if i then upS c else upA c, fun i => if i then [Aq.hd 1 ++ enc 4 0 0 true (Aq.newC c).m ++ []] else [], fun _ => [], fun _ => [], 0⟩
theorem Pr.ext' {p q : Pr} (h1 : ∀ i, p.a i = q.a i) (h2 : ∀ i, p.way i = q.way i) (h3 : ∀ i, p.heard i = q.heard i) (h4 : ∀ i, p.said i = q.said i) (h5 : p.downs = q.downs) : p = q := by
  cases p; cases q
  congr
  · funext i; exact h1 i
  · funext i; exact h2 i
  · funext i; exact h3 i
  · funext i; exact h4 i
theorem newC_m (c : Cf) : (Aq.newC c).m = 128 ∨ (Aq.newC c).m = 32768 := (Aq.new_ok ..).m2
theorem up_zero (c : Cf) : ((Pr.start (Aq.newC c) (Aq.newC c)).setA false (Aq.newC c).connect).collect = up0 c := by
  apply Pr.ext' <;> first | rfl | (intro i; cases i <;> rfl)
theorem tag_one (x : List UInt8) : Aq.tagOf (Aq.hd 1 ++ x) = 1 := by
  unfold Aq.tagOf Aq.hd
  show (UInt8.ofNat (1 / 256)).toNat * 256 + (UInt8.ofNat 1).toNat = 1
  decide
theorem input_open {s : Aq} {x : List UInt8} {k : Int} {n : Int} {p : Bool} (hx : 1 ≤ x.length) (h : rdC x s.m = ((k, 0, 0, p), n, 0)) : s.input (Aq.hd 1 ++ x) = s.proc 1 k 0 0 p ((Aq.hd 1 ++ x).drop (2 + n.toNat)) := by
  have e : (Aq.hd 1 ++ x).drop 2 = x := rfl
  unfold Aq.input
  rw [e, h, if_neg (by rw [List.length_append]; show ¬ 2 + _ < 2; omega), if_neg (by simp), tag_one]
theorem newC_open (c : Cf) : (Aq.newC c).input (Aq.hd 1 ++ enc 3 0 0 true (Aq.newC c).m ++ []) = (Aq.newC c).accept 1 true := by
  obtain ⟨h1, -, h2, -⟩ := rd_open _ (newC_m c)
  rw [List.append_nil, input_open (by omega) h1]
  have hs : (Aq.newC c).st = 0 := rfl
  have ht : (Aq.newC c).tg = 0 := rfl
  have ha : (Aq.newC c).ahead 1 = true := by unfold Aq.ahead; rw [ht]; decide
  simp [Aq.proc, Aq.request, hs, ha]
theorem upA_open (c : Cf) : (upA c).input (Aq.hd 1 ++ enc 4 0 0 true (Aq.newC c).m ++ []) = (upA c).agree := by
  obtain ⟨-, h1, -, h2⟩ := rd_open _ (newC_m c)
  rw [List.append_nil, input_open (s := upA c) (by omega) h1]
  rfl
theorem up_one (c : Cf) : (up0 c).carry false false = up1 c := by
  show (((up0 c).setWay false []).setA true ((Aq.newC c).input (Aq.hd 1 ++ enc 3 0 0 true (Aq.newC c).m ++ []))).collect = _
  rw [newC_open]
  apply Pr.ext' <;> first | rfl | (intro i; cases i <;> rfl)
theorem up_two (c : Cf) : (up1 c).carry true false = upP c := by
  show (((up1 c).setWay true []).setA false ((upA c).input (Aq.hd 1 ++ enc 4 0 0 true (Aq.newC c).m ++ []))).collect = _
  rw [upA_open]
  apply Pr.ext' <;> first | rfl | (intro i; cases i <;> rfl)
/-- the four rounds -/
def upK (c : Cf) : Nat → Pr
  | 0 => up0 c
  | 1 => up1 c
  | _ => upP c
theorem upK_step (c : Cf) : ∀ k, (upK c k).carry (k % 2 = 1) false = upK c (k + 1)
  | 0 => up_one c
  | 1 => up_two c
  | k + 2 => by
    show (upP c).carry _ _ = upP c
    rfl
theorem upS_ok (c : Cf) : (upS c).Ok := { Aq.new_ok c.md c.W c.t1 c.n2 c.q c.sz with st3 := (by decide : 2 ≤ 3), tgb := (by decide : 1 < 65536) }
end Go.Proofs.Ytgkdabllaankcaa
/- up: two ends of one session. No condition. -/
namespace Go.Proofs.Ytgkdabllaankcaa
open Go.RowKit
set_option linter.unusedVariables false

theorem newC_room (c : Cf) : (Aq.newC c).Room := ⟨Nat.zero_le _, Nat.zero_le _, Nat.zero_le _, Nat.zero_le _, Nat.zero_le _, Nat.zero_le _⟩
theorem upA_room (c : Cf) : (upA c).Room := ⟨Nat.zero_le _, Nat.zero_le _, Nat.zero_le _, Nat.zero_le _, Nat.zero_le _, Nat.zero_le _⟩
theorem up_room0 (c : Cf) : ((Pr.start (Aq.newC c) (Aq.newC c)).setA false (Aq.newC c).connect).Room :=
  ⟨fun i => by cases i <;> first | exact (Nat.zero_le _) | exact (by decide : 1 ≤ 1000000), fun i => by cases i <;> first | exact (Nat.zero_le _) | exact (by decide : 1 ≤ 1000000), fun i => by cases i <;> first | exact (Nat.zero_le _) | exact (by decide : 1 ≤ 1000000), by first | exact (Nat.zero_le _) | exact (by decide : 1 ≤ 1000000000)⟩
theorem up_rooms (c : Cf) : (∀ x l, (up0 c).way false = x :: l → ((up0 c).a true).Room ∧ x.length ≤ 90000 ∧ (if false = true then (up0 c).setWay false l else ((up0 c).setWay false l).setA true (((up0 c).a true).input x)).Room) ∧
    (∀ x l, (up1 c).way true = x :: l → ((up1 c).a false).Room ∧ x.length ≤ 90000 ∧ (if false = true then (up1 c).setWay true l else ((up1 c).setWay true l).setA false (((up1 c).a false).input x)).Room) := by
  obtain ⟨r1, r2, r3, r4⟩ := rd_open _ (newC_m c)
  constructor
  · intro x l h
    have h : [Aq.hd 1 ++ enc 3 0 0 true (Aq.newC c).m ++ []] = x :: l := h
    injection h with h1 h2
    subst h1 h2
    refine ⟨newC_room c, by rw [List.length_append, List.length_append, r3]; decide, ?_⟩
    show (((up0 c).setWay false []).setA true ((Aq.newC c).input (Aq.hd 1 ++ enc 3 0 0 true (Aq.newC c).m ++ []))).Room
    rw [newC_open]
    exact ⟨fun i => by cases i <;> first | exact (Nat.zero_le _) | exact (by decide : 1 ≤ 1000000), fun i => by cases i <;> first | exact (Nat.zero_le _) | exact (by decide : 1 ≤ 1000000), fun i => by cases i <;> first | exact (Nat.zero_le _) | exact (by decide : 1 ≤ 1000000), by first | exact (Nat.zero_le _) | exact (by decide : 1 ≤ 1000000000)⟩
  · intro x l h
    have h : [Aq.hd 1 ++ enc 4 0 0 true (Aq.newC c).m ++ []] = x :: l := h
    injection h with h1 h2
    subst h1 h2
    refine ⟨upA_room c, by rw [List.length_append, List.length_append, r4]; decide, ?_⟩
    show (((up1 c).setWay true []).setA false ((upA c).input (Aq.hd 1 ++ enc 4 0 0 true (Aq.newC c).m ++ []))).Room
    rw [upA_open]
    exact ⟨fun i => by cases i <;> first | exact (Nat.zero_le _) | exact (by decide : 1 ≤ 1000000), fun i => by cases i <;> first | exact (Nat.zero_le _) | exact (by decide : 1 ≤ 1000000), fun i => by cases i <;> first | exact (Nat.zero_le _) | exact (by decide : 1 ≤ 1000000), by first | exact (Nat.zero_le _) | exact (by decide : 1 ≤ 1000000000)⟩
section
variable {w v v' : World} {P : Nat} {b : Bool → Nat}
theorem AqMade.block {c : Cf} {V V' : World} {e : Ending} (hm : AqMade c V e V') {k : Nat} {C : Array Value} {T : TypeId} (h : V.heap[k]? = some (.cells C T (0, 0))) : V'.heap[k]? = some (.cells C T (0, 0)) := by
  obtain ⟨b, F, -, -, -, hb⟩ := hm
  exact ((Only.of_below (fun _ => False) hb).block k (lt_of_block h) (fun h => h)).trans h
theorem set_block {V : World} {k P j : Nat} (x : Value) {C : Array Value} {T : TypeId} (h : V.heap[k]? = some (.cells C T (0, 0))) (hk : k ≠ P) : (V.setCell ⟨P, j, none⟩ x).heap[k]? = some (.cells C T (0, 0)) :=
  ((only_set V ⟨P, j, none⟩ x).block k (lt_of_block h) hk).trans h
set_option maxRecDepth 20000 in
set_option maxHeartbeats 2000000 in
theorem up_calls (c : Cf) (bel : Below w.heap.size w v) : Calls Try.prog 9 #[cfv c] v fun e v' => ∃ P b, e = .returned (.pointer (some ⟨P, 0, none⟩)) ∧ PrOne (fun _ => False) w v' P b (upP c) := by
  obtain ⟨mode, md, W, t1, n2, ho, wa, ke, q, sz, ri, ra, ba, go, rv, wd⟩ := c
  have NC := fun v => aqNew_calls ⟨mode, md, W, t1, n2, ho, wa, ke, q, sz, ri, ra, ba, go, rv, wd⟩ v
  unfold cfv cfc at NC ⊢
  dsimp only at NC ⊢
  generalize (⟨mode, md, W, t1, n2, ho, wa, ke, q, sz, ri, ra, ba, go, rv, wd⟩ : Cf) = c at *
  have belB := bel.alloc bel.size (.cells #[.int .i64 mode, .int .i64 md, .int .i64 W, .int .i64 t1, .int .i64 n2, .int .i64 ho, .int .i64 wa, .int .i64 ke, .int .i64 q, .int .i64 sz, .int .i64 ri, .int .i64 ra, .int .i64 ba, .int .i64 go, .bool rv, .bool wd] 25)
  have A0 := (Half.alloc (H := fun _ => False) belB (fun _ h => h.elim)).drewN 1
  have hs : (v.alloc (.cells #[.int .i64 mode, .int .i64 md, .int .i64 W, .int .i64 t1, .int .i64 n2, .int .i64 ho, .int .i64 wa, .int .i64 ke, .int .i64 q, .int .i64 sz, .int .i64 ri, .int .i64 ra, .int .i64 ba, .int .i64 go, .bool rv, .bool wd] 25)).heap.size = v.heap.size + 1 := Array.size_push ..
  have B0 : (v.alloc (.cells #[.int .i64 mode, .int .i64 md, .int .i64 W, .int .i64 t1, .int .i64 n2, .int .i64 ho, .int .i64 wa, .int .i64 ke, .int .i64 q, .int .i64 sz, .int .i64 ri, .int .i64 ra, .int .i64 ba, .int .i64 go, .bool rv, .bool wd] 25)).heap[v.heap.size]? = some (.cells #[.int .i64 mode, .int .i64 md, .int .i64 W, .int .i64 t1, .int .i64 n2, .int .i64 ho, .int .i64 wa, .int .i64 ke, .int .i64 q, .int .i64 sz, .int .i64 ri, .int .i64 ra, .int .i64 ba, .int .i64 go, .bool rv, .bool wd] 25 (0, 0)) := heap_alloc_new v _
  have HC := Lib.hid (show ∀ V : World, V.heap[v.heap.size]? = some (.cells #[.int .i64 mode, .int .i64 md, .int .i64 W, .int .i64 t1, .int .i64 n2, .int .i64 ho, .int .i64 wa, .int .i64 ke, .int .i64 q, .int .i64 sz, .int .i64 ri, .int .i64 ra, .int .i64 ba, .int .i64 go, .bool rv, .bool wd] 25 (0, 0)) →
      (V.cell? ⟨v.heap.size, 0, none⟩ = some (.int .i64 mode) ∧ V.cell? ⟨v.heap.size, 1, none⟩ = some (.int .i64 md) ∧ V.cell? ⟨v.heap.size, 2, none⟩ = some (.int .i64 W) ∧ V.cell? ⟨v.heap.size, 3, none⟩ = some (.int .i64 t1)) ∧
      (V.cell? ⟨v.heap.size, 4, none⟩ = some (.int .i64 n2) ∧ V.cell? ⟨v.heap.size, 5, none⟩ = some (.int .i64 ho) ∧ V.cell? ⟨v.heap.size, 6, none⟩ = some (.int .i64 wa) ∧ V.cell? ⟨v.heap.size, 7, none⟩ = some (.int .i64 ke)) ∧
      (V.cell? ⟨v.heap.size, 8, none⟩ = some (.int .i64 q) ∧ V.cell? ⟨v.heap.size, 9, none⟩ = some (.int .i64 sz) ∧ V.cell? ⟨v.heap.size, 10, none⟩ = some (.int .i64 ri) ∧ V.cell? ⟨v.heap.size, 11, none⟩ = some (.int .i64 ra)) ∧
      (V.cell? ⟨v.heap.size, 12, none⟩ = some (.int .i64 ba) ∧ V.cell? ⟨v.heap.size, 13, none⟩ = some (.int .i64 go) ∧ V.cell? ⟨v.heap.size, 14, none⟩ = some (.bool rv) ∧ V.cell? ⟨v.heap.size, 15, none⟩ = some (.bool wd)) from fun V h =>
      ⟨⟨cell_of_row V _ 0 _ _ (0, 0) h, cell_of_row V _ 1 _ _ (0, 0) h, cell_of_row V _ 2 _ _ (0, 0) h, cell_of_row V _ 3 _ _ (0, 0) h⟩, ⟨cell_of_row V _ 4 _ _ (0, 0) h, cell_of_row V _ 5 _ _ (0, 0) h, cell_of_row V _ 6 _ _ (0, 0) h, cell_of_row V _ 7 _ _ (0, 0) h⟩, ⟨cell_of_row V _ 8 _ _ (0, 0) h, cell_of_row V _ 9 _ _ (0, 0) h, cell_of_row V _ 10 _ _ (0, 0) h, cell_of_row V _ 11 _ _ (0, 0) h⟩, ⟨cell_of_row V _ 12 _ _ (0, 0) h, cell_of_row V _ 13 _ _ (0, 0) h, cell_of_row V _ 14 _ _ (0, 0) h, cell_of_row V _ 15 _ _ (0, 0) h⟩⟩)
  rw [hs] at A0
  have HB1 := Lib.hid (((Only.of_below (fun _ => False) ((Below.refl _ _).alloc (Nat.le_refl _) (.cells (pr0 none none) 36))).block _ (lt_of_block B0) (fun h => h)).trans B0)
  have HA0 := Lib.hid A0
  have HNC := Lib.hid NC
  clear A0 bel belB hs B0 NC
  unfold pr0 at HA0 HB1
  go_enter Try.func9, Try.ntmps9
  go_wp2_with fail
  go_region_law (first
    | (go_simp; go_at_call 22; refine (HNC.out _).mono ?_; rintro e v2 hm; have hm2 := Lib.hid hm; obtain ⟨b0, rfl, h1⟩ := Half.made HA0.out hm; obtain ⟨k0, z0, h2⟩ := h1.store; have FI := Lib.hid h2; clear h1 h2 hm))
  all_goals
    have B2 := AqMade.block hm2.out HB1.out
    have B3 := set_block (P := v.heap.size + 1) (j := 0) (.pointer (some ⟨b0, 0, none⟩)) B2 (by omega)
    obtain ⟨V3, hV3⟩ : ∃ V3, v2.setCell ⟨v.heap.size + 1, 0, none⟩ (.pointer (some ⟨b0, 0, none⟩)) = V3 := ⟨_, rfl⟩
    rw [hV3] at B3 FI ⊢
    obtain ⟨⟨f0, f1, f2, f3⟩, ⟨f4, f5, f6, f7⟩, ⟨f8, f9, f10, f11⟩, f12, f13, f14, f15⟩ := HC.out V3 B3
    clear B2 B3 hV3 k0 z0 hm2 HA0 HB1
    go_wp2_with fail
    go_region_law (first
      | (go_simp; go_at_call 22; refine (HNC.out _).mono ?_; rintro e v4 hm; obtain ⟨b1, rfl, h3⟩ := Half1.made (FI.out.drewN 1) hm; obtain ⟨k0, z0, h4⟩ := h3.store; have FJ := Lib.hid h4; clear h3 h4 hm))
    all_goals
      clear f0 f1 f2 f3 f4 f5 f6 f7 f8 f9 f10 f11 f12 f13 f14 f15 k0 z0 FI HC HNC
      obtain ⟨V5, hV5⟩ : ∃ V5, v4.setCell ⟨v.heap.size + 1, 1, none⟩ (.pointer (some ⟨b1, 0, none⟩)) = V5 := ⟨_, rfl⟩
      obtain ⟨b, hb⟩ : ∃ b : Bool → Nat, (fun i => if i then b1 else b0) = b := ⟨_, rfl⟩
      rw [hV5] at FJ ⊢
      have h5 := FJ.out
      simp only [hb] at h5
      clear hV5 hb FJ
      generalize v.heap.size + 1 = P at *
      have p0 : V5.cell? ⟨P, 0, none⟩ = some (.pointer (some ⟨b false, 0, none⟩)) := h5.ptr false
      have CN := h5.act false (r := .returned (.int .i64 (Aq.newC c).connectE)) (s' := (Aq.newC c).connect) (fun H' oA _ => AqOne.connect (s := Aq.newC c) oA (Nat.zero_le _))
      clear h5
      go_wp2_with fail
      refine CN.mono ?_
      rintro e v6 ⟨rfl, h6, -, -⟩
      have CC := collect_calls h6 (up_room0 c)
      clear CN h6 p0
      rw [up_zero] at CC
      go_wp2_with fail
      refine CC.mono ?_
      rintro e v7 ⟨rfl, h7, -⟩
      have H0 : Aside (PrOne (fun _ => False) w v7 P b (upK c 0)) := h7
      clear CC h7
      go_wp2_with fail
      go_loopg [4] 4 (fun kx s4 wr => ∃ k : Nat, s4 = .int .i64 (k : Int) ∧ k ≤ 4 ∧ 4 - k ≤ kx ∧ Aside (PrOne (fun _ => False) w wr P b (upK c k)))
      case atStart => exact ⟨0, rfl, by omega, by omega, H0⟩
      case round =>
        clear H0
        obtain ⟨k, rfl, hk, hkx, HO⟩ := hrel
        rcases k with _ | _ | _ | _ | k
        · have CC := carry_zero (p := up0 c) HO.out false (up_rooms c).1
          have HN := Lib.hid (show (upK c 0).carry false false = upK c (0 + 1) from upK_step c 0)
          have a0 : bits .and .i64 0 1 = 0 := rfl
          clear HO
          go_wp2_with fail
          refine CC.mono ?_
          rintro e w1 ⟨rfl, h1, -⟩
          have HR : Aside (PrOne (fun _ => False) w w1 P b (upK c (0 + 1))) := by
            rw [← HN.out]
            exact h1
          clear CC h1 HN
          go_wp2
          go_roundg (4 - (0 + 1))
          case measure => omega
          case rel => exact ⟨0 + 1, by go_num, by omega, Nat.le_refl _, HR⟩
        · have CC := carry_one (p := up1 c) HO.out false (up_rooms c).2
          have HN := Lib.hid (show (upK c 1).carry true false = upK c (1 + 1) from upK_step c 1)
          have a0 : bits .and .i64 1 1 = 1 := rfl
          clear HO
          go_wp2_with fail
          refine CC.mono ?_
          rintro e w1 ⟨rfl, h1, -⟩
          have HR : Aside (PrOne (fun _ => False) w w1 P b (upK c (1 + 1))) := by
            rw [← HN.out]
            exact h1
          clear CC h1 HN
          go_wp2
          go_roundg (4 - (1 + 1))
          case measure => omega
          case rel => exact ⟨1 + 1, by go_num, by omega, Nat.le_refl _, HR⟩
        · have CC := carry_zero (p := upP c) HO.out false (fun x l h => by cases h)
          have HN := Lib.hid (show (upK c 2).carry false false = upK c (2 + 1) from upK_step c 2)
          have a0 : bits .and .i64 2 1 = 0 := rfl
          clear HO
          go_wp2_with fail
          refine CC.mono ?_
          rintro e w1 ⟨rfl, h1, -⟩
          have HR : Aside (PrOne (fun _ => False) w w1 P b (upK c (2 + 1))) := by
            rw [← HN.out]
            exact h1
          clear CC h1 HN
          go_wp2
          go_roundg (4 - (2 + 1))
          case measure => omega
          case rel => exact ⟨2 + 1, by go_num, by omega, Nat.le_refl _, HR⟩
        · have CC := carry_one (p := upP c) HO.out false (fun x l h => by cases h)
          have HN := Lib.hid (show (upK c 3).carry true false = upK c (3 + 1) from upK_step c 3)
          have a0 : bits .and .i64 3 1 = 1 := rfl
          clear HO
          go_wp2_with fail
          refine CC.mono ?_
          rintro e w1 ⟨rfl, h1, -⟩
          have HR : Aside (PrOne (fun _ => False) w w1 P b (upK c (3 + 1))) := by
            rw [← HN.out]
            exact h1
          clear CC h1 HN
          go_wp2
          go_roundg (4 - (3 + 1))
          case measure => omega
          case rel => exact ⟨3 + 1, by go_num, by omega, Nat.le_refl _, HR⟩
        · have hk0 : k = 0 := by omega
          subst hk0
          have FI := Lib.hid (show PrOne (fun _ => False) w wr P b (upP c) from HO.out)
          clear HO
          go_wp2
          go_ret
          exact ⟨P, b, rfl, FI.out⟩
end
end Go.Proofs.Ytgkdabllaankcaa
/- An end that is Up and takes messages, plainly: the first of them are out, the others wait. No condition. -/
namespace Go.Proofs.Ytgkdabllaankcaa
set_option linter.unusedVariables false

/-- what is out of the tag t: the messages numbered from k on -/
def outsFrom (t m : Nat) (e : Nat) : Nat → List (List UInt8) → List (List UInt8)
  | _, [] => []
  | k, x :: l => (Aq.hd t ++ enc 0 (k : Int) (e : Int) false m ++ x) :: outsFrom t m e (k + 1) l
theorem outsFrom_len (t m e : Nat) : ∀ (l : List (List UInt8)) (k : Nat), (outsFrom t m e k l).length = l.length
  | [], _ => rfl
  | x :: l, k => by show (outsFrom t m e (k + 1) l).length + 1 = _; rw [outsFrom_len t m e l (k + 1)]; rfl
theorem outsFrom_snoc (t m e : Nat) (x : List UInt8) : ∀ (l : List (List UInt8)) (k : Nat), outsFrom t m e k (l ++ [x]) = outsFrom t m e k l ++ [Aq.hd t ++ enc 0 ((k + l.length : Nat) : Int) (e : Int) false m ++ x]
  | [], _ => rfl
  | y :: l, k => by
    show _ :: outsFrom t m e (k + 1) (l ++ [x]) = _ :: _
    rw [outsFrom_snoc t m e x l (k + 1), show k + 1 + l.length = k + (y :: l).length by simp; omega]
    rfl
/-- an end that is Up, at rest, that has taken the messages L -/
def sentS (s : Aq) (L : List (List UInt8)) : Aq :=
  { s with lg := ⟨s.lg.m, s.lg.W, s.lg.Q, 0, min s.lg.W L.length, L⟩, os := outsFrom s.tg s.m s.od.e 0 (L.take s.lg.W), sn := L.length, lf := if L = [] then 0 else s.t1 }
/-- an end at rest -/
structure Aq.Rest (s : Aq) : Prop where
  ok : s.Ok
  st : s.st = 2
  f : s.lg.f = 0
  n : s.lg.n = 0
  l : s.lg.l = []
  os : s.os = []
  sn : s.sn = 0
  lf : s.lf = 0
theorem sentS_nil {s : Aq} (h : s.Rest) : sentS s [] = s := by
  obtain ⟨-, -, hf, hn, hl, ho, hs, hlf⟩ := h
  cases s with
  | mk m t1 n2 sz st tg lg od lf tr rj os is sn ak lo =>
    cases lg with
    | mk lm lW lQ f n l =>
      simp only at hf hn hl ho hs hlf
      subst hf hn hl ho hs hlf
      simp [sentS, outsFrom]
theorem take_snoc_lt {l : List (List UInt8)} {x : List UInt8} {k : Nat} (h : l.length < k) : (l ++ [x]).take k = l ++ [x] := List.take_of_length_le (by simp; omega)
theorem sentS_give {s : Aq} (h : s.Rest) (hQ : 1 ≤ s.lg.Q) {L : List (List UInt8)} (hL : L.length < s.lg.W + s.lg.Q) {x : List UInt8} (hx : x.length ≤ s.sz) : (sentS s L).give x = sentS s (L ++ [x]) ∧ (sentS s L).giveE x = 0 := by
  have hm := h.ok.lgm
  have hm0 := h.ok.lg.m8
  have hW8 := h.ok.lg.w8
  have hfull : (sentS s L).lg.full = false := by
    unfold Lg.full
    show decide (s.lg.Q ≤ L.length - min s.lg.W L.length) = false
    exact decide_eq_false (by omega)
  constructor
  · unfold Aq.give
    rw [if_neg (by show ¬ s.sz < x.length; omega), if_neg (by show ¬ s.st ≠ 2; rw [h.st]; simp), hfull]
    rw [if_neg (by simp)]
    have hadd : (sentS s L).lg.add x = ⟨s.lg.m, s.lg.W, s.lg.Q, 0, min s.lg.W L.length, L ++ [x]⟩ := by unfold Lg.add; rw [hfull]; rfl
    rw [hadd]
    unfold Aq.pump
    show Aq.pumpN ((L ++ [x]).length - min s.lg.W L.length) _ = _
    by_cases hW : L.length < s.lg.W
    · rw [show (L ++ [x]).length - min s.lg.W L.length = 1 by simp; omega]
      have hst : (⟨s.lg.m, s.lg.W, s.lg.Q, 0, min s.lg.W L.length, L ++ [x]⟩ : Lg).stop = false := by
        unfold Lg.stop
        simp
        omega
      unfold Aq.pumpN
      show (if (⟨s.lg.m, s.lg.W, s.lg.Q, 0, min s.lg.W L.length, L ++ [x]⟩ : Lg).stop = true then _ else _) = _
      rw [hst, if_neg (by simp)]
      unfold Aq.pumpN Aq.pumpStep
      have hnext : (⟨s.lg.m, s.lg.W, s.lg.Q, 0, min s.lg.W L.length, L ++ [x]⟩ : Lg).next = ⟨s.lg.m, s.lg.W, s.lg.Q, 0, min s.lg.W (L ++ [x]).length, L ++ [x]⟩ := by
        unfold Lg.next
        rw [hst, if_neg (by simp)]
        simp
        omega
      have hN : (⟨s.lg.m, s.lg.W, s.lg.Q, 0, min s.lg.W L.length, L ++ [x]⟩ : Lg).nextN = L.length := by
        unfold Lg.nextN
        rw [hst, if_neg (by simp)]
        show (0 + min s.lg.W L.length) % s.lg.m = _
        rw [Nat.mod_eq_of_lt (by omega)]
        omega
      have hX : (⟨s.lg.m, s.lg.W, s.lg.Q, 0, min s.lg.W L.length, L ++ [x]⟩ : Lg).nextX = x := by
        unfold Lg.nextX
        rw [hst, if_neg (by simp)]
        show (L ++ [x]).getD (min s.lg.W L.length) [] = x
        rw [show min s.lg.W L.length = L.length by omega]
        simp
      have ho : outsFrom s.tg s.m s.od.e 0 ((L ++ [x]).take s.lg.W) = outsFrom s.tg s.m s.od.e 0 (L.take s.lg.W) ++ [Aq.hd s.tg ++ enc 0 ((L.length : Nat) : Int) (s.od.e : Int) false s.m ++ x] := by
        rw [take_snoc_lt hW, List.take_of_length_le (by omega), outsFrom_snoc, Nat.zero_add]
      by_cases he : L = []
      · subst he
        rw [if_pos (by show (if ([] : List (List UInt8)) = [] then 0 else s.t1) = 0; rfl)]
        unfold Aq.start Aq.sendM Aq.put Aq.setLg Aq.setSn sentS
        simp only [hnext, hN, hX, ho]
        simp
      · have h1 : (if L = [] then 0 else s.t1) = s.t1 := if_neg he
        rw [if_neg (by show ¬ (if L = [] then 0 else s.t1) = 0; rw [h1]; have := h.ok.t1a; omega)]
        unfold Aq.sendM Aq.put Aq.setLg Aq.setSn sentS
        simp only [hnext, hN, hX, ho, h1]
        simp
    · have hst : (⟨s.lg.m, s.lg.W, s.lg.Q, 0, min s.lg.W L.length, L ++ [x]⟩ : Lg).stop = true := by
        unfold Lg.stop
        simp
        omega
      have hstop : ∀ (f : Nat) (s' : Aq), s'.lg.stop = true → Aq.pumpN f s' = s' := fun f s' hs' => by
        cases f with
        | zero => rfl
        | succ f => unfold Aq.pumpN; rw [if_pos hs']
      rw [hstop _ _ hst]
      have hL0 : L ≠ [] := by
        rintro rfl
        have := h.ok.lg.w1
        simp at hW
        omega
      have ht : (L ++ [x]).take s.lg.W = L.take s.lg.W := by rw [List.take_append_of_le_length (by omega)]
      have hmin : min s.lg.W (L ++ [x]).length = min s.lg.W L.length := by simp; omega
      unfold Aq.setLg Aq.setSn sentS
      simp only [ht, hmin, if_neg hL0]
      simp
  · unfold Aq.giveE
    rw [if_neg (by show ¬ s.sz < x.length; omega), if_neg (by show ¬ s.st ≠ 2; rw [h.st]; simp)]
    unfold Lg.addE
    rw [hfull]
    rfl
theorem sentS_refuse {s : Aq} (h : s.Rest) {L : List (List UInt8)} (hL : s.lg.W + s.lg.Q ≤ L.length) {x : List UInt8} (hx : x.length ≤ s.sz) : (sentS s L).give x = sentS s L ∧ (sentS s L).giveE x = 6 := by
  have hfull : (sentS s L).lg.full = true := by
    unfold Lg.full
    show decide (s.lg.Q ≤ L.length - min s.lg.W L.length) = true
    exact decide_eq_true (by omega)
  constructor
  · unfold Aq.give
    rw [if_neg (by show ¬ s.sz < x.length; omega), if_neg (by show ¬ s.st ≠ 2; rw [h.st]; simp), hfull]
    rfl
  · unfold Aq.giveE
    rw [if_neg (by show ¬ s.sz < x.length; omega), if_neg (by show ¬ s.st ≠ 2; rw [h.st]; simp)]
    unfold Lg.addE
    rw [hfull]
    rfl
theorem upS_rest (c : Cf) : (upS c).Rest := ⟨upS_ok c, rfl, rfl, rfl, rfl, rfl, rfl, rfl⟩
end Go.Proofs.Ytgkdabllaankcaa
/- What is written is read as it was (CtlBack's plain half, for seats without the reference's reader). No condition. -/
namespace Go.Proofs.Ytgkdabllaankcaa
open Go.RowKit
set_option linter.unusedVariables false

section
variable {l : List UInt8} {m k : Int}
theorem rdC_of (hm : isMod m = true) (h0 : l ≠ []) : rdC l m = (if (kindN (bAt l 0)).2 = false then (zc, 0, 2) else if numb (kindN (bAt l 0)).1 = true then rdNum (kindN (bAt l 0)).1 (splitN l m) else (((kindN (bAt l 0)).1, 0, 0, decide (bAt l 0 / 16 % 2 = 1)), 1, 0)) := by
  unfold rdC
  rw [if_neg (by rw [hm]; decide), if_neg h0]
theorem rdC_bare (hm : isMod m = true) (h0 : l ≠ []) (h3 : 3 ≤ k) (h7 : k ≤ 7) (q : Bool) (h : bAt l 0 = codeOf k + 16 * pb q) : rdC l m = ((k, 0, 0, q), 1, 0) := by
  have hk : k = 3 ∨ k = 4 ∨ k = 5 ∨ k = 6 ∨ k = 7 := by omega
  rw [rdC_of hm h0, h]
  rcases hk with rfl | rfl | rfl | rfl | rfl <;> cases q <;> rfl
theorem rdC_num (hm : isMod m = true) (h0 : l ≠ []) (hk : kindN (bAt l 0) = (k, true)) (hn : numb k = true) : rdC l m = rdNum k (splitN l m) := by
  rw [rdC_of hm h0, hk]
  dsimp only
  rw [if_neg (by decide), if_pos hn]
end
theorem bAt_cons0 (a : UInt8) (l : List UInt8) : bAt (a :: l) 0 = (a.toNat : Int) := rfl
theorem pb_rem (n : Int) (p : Bool) : decide ((n * 2 + pb p) % 2 = 1) = p ∧ (n * 2 + pb p) / 2 = n := by
  cases p
  · rw [pb_f]
    exact ⟨decide_eq_false (by omega), by omega⟩
  · rw [pb_t]
    exact ⟨decide_eq_true (by omega), by omega⟩
theorem kind_num {k ns X : Int} (hk : k = 0 ∨ ((k = 1 ∨ k = 2) ∧ ns = 0)) (hX : X % 256 = (codeOf k + ns * 2) % 256) : kindN (X % 256) = (k, true) := by
  rw [hX]
  rcases hk with rfl | ⟨rfl | rfl, rfl⟩
  · rw [show codeOf 0 + ns * 2 = ns * 2 by rw [show codeOf 0 = 0 from rfl]; omega]
    unfold kindN
    rw [if_pos (by omega)]
  · rfl
  · rfl
theorem rd_enc (k ns nr : Int) (p : Bool) (m : Int) (t : List UInt8) (h : right k ns nr m = true) : rdC (enc k ns nr p m ++ t) m = ((k, ns, nr, p), ((enc k ns nr p m).length : Int), 0) := by
  obtain ⟨a1, a2, a3, a4, a5, a6, a7, a8, a9, a10⟩ := right_num h
  have hM := right_mod h
  have hm : m = 128 ∨ m = 32768 := of_decide_eq_true hM
  have hp := pb_bound p
  have hpr := pb_rem nr p
  cases hn : numb k
  · have he : enc k ns nr p m = [by8 (codeOf k + 16 * pb p)] := by unfold enc; rw [h, hn]; rfl
    have hnn : ¬ (k = 0 ∨ k = 1 ∨ k = 2) := of_decide_eq_false hn
    rw [he]
    have cb := code_bound k
    have hz1 := a7 (by omega)
    have hz2 := a8 hn
    subst hz1 hz2
    exact rdC_bare hM (by simp) (by omega) a10 p (by show ((by8 (codeOf k + 16 * pb p)).toNat : Int) = _; rw [by8_nat]; omega)
  · have he : enc k ns nr p m = joinB (codeOf k + ns * 2) (nr * 2 + pb p) m := by unfold enc; rw [h, hn]; rfl
    have hx := num_b h hn
    have cb := code_bound k
    have hnn : k = 0 ∨ k = 1 ∨ k = 2 := of_decide_eq_true hn
    have hk : k = 0 ∨ ((k = 1 ∨ k = 2) ∧ ns = 0) := by
      by_cases h0 : k = 0
      · exact .inl h0
      · exact .inr ⟨by omega, a7 h0⟩
    have hcn := code_num hn
    have hfirst : k ≠ 0 → codeOf k + ns * 2 = codeOf k := fun h0 => by rw [a7 h0]; omega
    have hzero : k = 0 → (codeOf k + ns * 2) / 2 = ns := fun h0 => by rw [h0, show codeOf 0 = 0 from rfl]; omega
    have hd2 : (nr * 2 + pb p) / 2 = nr := hpr.2
    have hlow : m = 128 → codeOf k + ns * 2 < 256 := fun e => by
      by_cases h0 : k = 0
      · rw [h0, show codeOf 0 = 0 from rfl]; omega
      · rw [a7 h0]; omega
    rw [he]
    have fin : ∀ s : Int × Int × Int, s.1 = codeOf k + ns * 2 → s.2.1 = nr * 2 + pb p → ¬ s.2.2 = 0 → rdNum k s = ((k, ns, nr, p), s.2.2, 0) := by
      intro s h1 h2 h3
      unfold rdNum
      rw [if_neg h3, h1, h2, hpr.1, hd2]
      by_cases h0 : k = 0
      · rw [if_pos h0, hzero h0]
      · rw [if_neg h0, if_pos (hfirst h0), a7 h0]
    rcases hm with rfl | rfl
    · rw [show joinB (codeOf k + ns * 2) (nr * 2 + pb p) 128 = [by8 (codeOf k + ns * 2), by8 (nr * 2 + pb p)] from rfl]
      have q0 : bAt ([by8 (codeOf k + ns * 2), by8 (nr * 2 + pb p)] ++ t) 0 = (codeOf k + ns * 2) % 256 := by8_nat _
      have q1 : bAt ([by8 (codeOf k + ns * 2), by8 (nr * 2 + pb p)] ++ t) 1 = (nr * 2 + pb p) % 256 := by8_nat _
      have hlo := hlow rfl
      have sp : splitN ([by8 (codeOf k + ns * 2), by8 (nr * 2 + pb p)] ++ t) 128 = ((codeOf k + ns * 2) % 256, (nr * 2 + pb p) % 256, 2) := by
        unfold splitN
        rw [if_pos ⟨rfl, by simp⟩, q0, q1]
      rw [rdC_num (k := k) hM (by simp) (by rw [q0]; exact kind_num hk rfl) hn, sp, fin _ (by show (codeOf k + ns * 2) % 256 = _; omega) (by show (nr * 2 + pb p) % 256 = _; omega) (by show ¬ (2 : Int) = 0; decide)]
      rfl
    · rw [show joinB (codeOf k + ns * 2) (nr * 2 + pb p) 32768 = [by8 (codeOf k + ns * 2), by8 ((codeOf k + ns * 2) / 256), by8 (nr * 2 + pb p), by8 ((nr * 2 + pb p) / 256)] from rfl]
      have q0 : bAt ([by8 (codeOf k + ns * 2), by8 ((codeOf k + ns * 2) / 256), by8 (nr * 2 + pb p), by8 ((nr * 2 + pb p) / 256)] ++ t) 0 = (codeOf k + ns * 2) % 256 := by8_nat _
      have q1 : bAt ([by8 (codeOf k + ns * 2), by8 ((codeOf k + ns * 2) / 256), by8 (nr * 2 + pb p), by8 ((nr * 2 + pb p) / 256)] ++ t) 1 = (codeOf k + ns * 2) / 256 % 256 := by8_nat _
      have q2 : bAt ([by8 (codeOf k + ns * 2), by8 ((codeOf k + ns * 2) / 256), by8 (nr * 2 + pb p), by8 ((nr * 2 + pb p) / 256)] ++ t) 2 = (nr * 2 + pb p) % 256 := by8_nat _
      have q3 : bAt ([by8 (codeOf k + ns * 2), by8 ((codeOf k + ns * 2) / 256), by8 (nr * 2 + pb p), by8 ((nr * 2 + pb p) / 256)] ++ t) 3 = (nr * 2 + pb p) / 256 % 256 := by8_nat _
      have sp : splitN ([by8 (codeOf k + ns * 2), by8 ((codeOf k + ns * 2) / 256), by8 (nr * 2 + pb p), by8 ((nr * 2 + pb p) / 256)] ++ t) 32768 = ((codeOf k + ns * 2) % 256 + 256 * ((codeOf k + ns * 2) / 256 % 256), (nr * 2 + pb p) % 256 + 256 * ((nr * 2 + pb p) / 256 % 256), 4) := by
        unfold splitN
        rw [if_neg (by omega), if_pos ⟨rfl, by simp⟩, q0, q1, q2, q3]
      rw [rdC_num (k := k) hM (by simp) (by rw [q0]; exact kind_num hk rfl) hn, sp, fin _ (by show (codeOf k + ns * 2) % 256 + 256 * ((codeOf k + ns * 2) / 256 % 256) = _; omega) (by show (nr * 2 + pb p) % 256 + 256 * ((nr * 2 + pb p) / 256 % 256) = _; omega) (by show ¬ (4 : Int) = 0; decide)]
      rfl
theorem enc_pos {k ns nr m : Int} {p : Bool} (h : right k ns nr m = true) : 0 < (enc k ns nr p m).length := by
  unfold enc joinB
  rw [if_pos h]
  split
  · split <;> simp
  · simp
end Go.Proofs.Ytgkdabllaankcaa

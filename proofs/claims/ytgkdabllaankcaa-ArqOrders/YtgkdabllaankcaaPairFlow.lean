/- Two ends and what is under way between them, plainly: what one carrying leaves; how a lossless pair comes to rest. No condition. -/
import Derived.Test.YtgkdabllaankcaaG14
import Derived.Test.YtgkdabllaankcaaG15
namespace Go.Proofs.Ytgkdabllaankcaa
set_option linter.unusedVariables false

/-- an end that has told all -/
def Aq.Dry (s : Aq) : Prop := s.os = [] ∧ s.is = [] ∧ s.od.r = []
theorem Aq.Dry.same {s : Aq} (h : s.Dry) : s.dry = s := by
  obtain ⟨h1, h2, h3⟩ := h
  cases s with
  | mk m t1 n2 sz st tg lg od lf tr rj os is sn ak lo =>
    cases od with
    | mk om oW oe ok or =>
      simp only at h1 h2 h3
      subst h1 h2 h3
      rfl
theorem Aq.dry_dry (s : Aq) : s.dry.Dry := ⟨rfl, rfl, rfl⟩
theorem Aq.Ok.dry {s : Aq} (h : s.Ok) : s.dry.Ok := { h with od := { h.od with small := fun x hx => (List.not_mem_nil hx).elim } }
/-- what one carrying leaves -/
structure Carried (p p' : Pr) (i : Bool) (l : List (List UInt8)) (s' : Aq) : Prop where
  a' : p'.a (!i) = s'.dry
  a : p'.a i = p.a i
  way : p'.way i = l
  way' : p'.way (!i) = p.way (!i) ++ s'.os
  heard : p'.heard i = p.heard i
  heard' : p'.heard (!i) = p.heard (!i) ++ s'.od.r
  said : p'.said = p.said
  downs : p'.downs = p.downs + dn s'.is
theorem dn_nil : dn [] = 0 := rfl
section
variable {p : Pr} {i : Bool} {x : List UInt8} {l : List (List UInt8)}
/-- both tell what one end has -/
theorem collected (hd : (p.a i).Dry) : Carried p p.collect i (p.way i) (p.a (!i)) := by
  have hs := hd.same
  obtain ⟨h1, h2, h3⟩ := hd
  cases i
  · refine ⟨rfl, ?_, ?_, rfl, ?_, rfl, rfl, ?_⟩
    · exact hs
    · show p.way false ++ (p.a false).os = _; rw [h1, List.append_nil]
    · show p.heard false ++ (p.a false).od.r = _; rw [h3, List.append_nil]
    · show p.downs + dn (p.a false).is + dn (p.a true).is = _; rw [h2]; rfl
  · refine ⟨rfl, ?_, ?_, rfl, ?_, rfl, rfl, ?_⟩
    · exact hs
    · show p.way true ++ (p.a true).os = _; rw [h1, List.append_nil]
    · show p.heard true ++ (p.a true).od.r = _; rw [h3, List.append_nil]
    · show p.downs + dn (p.a false).is + dn (p.a true).is = _; rw [h2]; rfl
theorem carried (hd : (p.a i).Dry) (hw : p.way i = x :: l) : Carried p (p.carry i false) i l ((p.a (!i)).input x) := by
  have hc := collected (p := (p.setWay i l).setA (!i) ((p.a (!i)).input x)) (i := i) (by cases i <;> exact hd)
  rw [Pr.carry_cons hw, if_neg (by decide)]
  have e1 : ((p.setWay i l).setA (!i) ((p.a (!i)).input x)).a (!i) = (p.a (!i)).input x := bset_same
  have e2 : ((p.setWay i l).setA (!i) ((p.a (!i)).input x)).way i = l := bset_same
  rw [e1, e2] at hc
  obtain ⟨c1, c2, c3, c4, c5, c6, c7, c8⟩ := hc
  refine ⟨c1, c2.trans ?_, c3, c4.trans ?_, c5, c6, c7, c8⟩
  · cases i <;> rfl
  · cases i <;> rfl
/-- room for one carrying -/
def Roomy (p : Pr) (i : Bool) : Prop := ∀ x l, p.way i = x :: l → (p.a (!i)).Room ∧ x.length ≤ 90000 ∧ (if false = true then p.setWay i l else (p.setWay i l).setA (!i) ((p.a (!i)).input x)).Room
theorem roomy (hd : (p.a i).Dry) (h : ∀ x l, p.way i = x :: l → (p.a (!i)).Room ∧ x.length ≤ 90000 ∧ (p.way i).length ≤ 100000 ∧ (p.way (!i)).length + ((p.a (!i)).input x).os.length ≤ 1000000 ∧ (p.heard i).length ≤ 1000000 ∧ (p.heard (!i)).length + ((p.a (!i)).input x).od.r.length ≤ 1000000 ∧ ((p.a (!i)).input x).is.length ≤ 1000 ∧ p.downs ≤ 1000000) : Roomy p i := by
  intro x l hw
  obtain ⟨r1, r2, r3, r4, r5, r6, r7, r8⟩ := h x l hw
  rw [hw] at r3
  refine ⟨r1, r2, ?_⟩
  rw [if_neg (by decide)]
  obtain ⟨h1, h2, h3⟩ := hd
  have r3 : l.length + 1 ≤ 100000 := r3
  refine ⟨fun j => ?_, fun j => ?_, fun j => ?_, ?_⟩
  · cases i <;> cases j
    · show l.length + (p.a false).os.length ≤ _; rw [h1]; show l.length + 0 ≤ _; omega
    · exact r4
    · exact r4
    · show l.length + (p.a true).os.length ≤ _; rw [h1]; show l.length + 0 ≤ _; omega
  · cases i <;> cases j
    · show (p.heard false).length + (p.a false).od.r.length ≤ _; rw [h3]; exact r5
    · exact r6
    · exact r6
    · show (p.heard true).length + (p.a true).od.r.length ≤ _; rw [h3]; exact r5
  · cases i <;> cases j
    · show (p.a false).is.length ≤ _; rw [h2]; exact Nat.zero_le _
    · show ((p.a true).input x).is.length ≤ _; exact Nat.le_trans r7 (by decide)
    · show ((p.a false).input x).is.length ≤ _; exact Nat.le_trans r7 (by decide)
    · show (p.a true).is.length ≤ _; rw [h2]; exact Nat.zero_le _
  · cases i
    · show p.downs + (p.a false).is.length + ((p.a true).input x).is.length ≤ _
      have r7 : ((p.a true).input x).is.length ≤ 1000 := r7
      rw [h2]
      show p.downs + 0 + _ ≤ _
      omega
    · show p.downs + ((p.a false).input x).is.length + (p.a true).is.length ≤ _
      have r7 : ((p.a false).input x).is.length ≤ 1000 := r7
      rw [h2]
      show p.downs + _ + 0 ≤ _
      omega
end
/-- a row of carryings that comes to rest: J u p says how far p is from it -/
structure Flow (J : Nat → Pr → Prop) : Prop where
  room : ∀ {u p}, J u p → ∀ i, Roomy p i
  step : ∀ {u p}, J u p → ∀ i, p.way i ≠ [] → ∃ u', u' < u ∧ J u' (p.carry i false)
section
variable {J : Nat → Pr → Prop} {u u0 r : Nat} {p : Pr}
theorem Flow.carry (F : Flow J) (h : J u p) (i : Bool) : ∃ u', u' ≤ u ∧ J u' (p.carry i false) := by
  by_cases c : p.way i = []
  · rw [Pr.carry_nil c]; exact ⟨u, Nat.le_refl _, h⟩
  · obtain ⟨u', h1, h2⟩ := F.step h i c; exact ⟨u', Nat.le_of_lt h1, h2⟩
/-- r rounds of u0 are done -/
def Rounds (J : Nat → Pr → Prop) (u0 r : Nat) (p : Pr) : Prop := ∃ u, J u p ∧ (u + r ≤ u0 ∨ ∀ i, p.way i = [])
theorem Flow.begin (h : J u p) : Rounds J u 0 p := ⟨u, h, .inl (Nat.le_refl _)⟩
theorem Flow.round (F : Flow J) (h : Rounds J u0 r p) : Rounds J u0 (r + 1) ((p.carry false false).carry true false) := by
  obtain ⟨u, h1, h2⟩ := h
  rcases h2 with h2 | h2
  · by_cases c : p.way false = []
    · rw [Pr.carry_nil c]
      by_cases d : p.way true = []
      · rw [Pr.carry_nil d]; exact ⟨u, h1, .inr fun i => by cases i <;> assumption⟩
      · obtain ⟨u', k1, k2⟩ := F.step h1 true d; exact ⟨u', k2, .inl (by omega)⟩
    · obtain ⟨u', k1, k2⟩ := F.step h1 false c
      obtain ⟨u2, k3, k4⟩ := F.carry k2 true
      exact ⟨u2, k4, .inl (by omega)⟩
  · rw [Pr.carry_nil (h2 false), Pr.carry_nil (h2 true)]
    exact ⟨u, h1, .inr h2⟩
theorem Flow.done (F : Flow J) (h : Rounds J u0 r p) (hr : u0 ≤ r) : ∃ u, J u p ∧ ∀ i, p.way i = [] := by
  obtain ⟨u, h1, h2⟩ := h
  rcases h2 with h2 | h2
  · refine ⟨u, h1, fun i => ?_⟩
    by_cases c : p.way i = []
    · exact c
    · obtain ⟨u', k1, k2⟩ := F.step h1 i c; omega
  · exact ⟨u, h1, h2⟩
theorem Rounds.room (F : Flow J) (h : Rounds J u0 r p) : Roomy p false ∧ Roomy (p.carry false false) true := by
  obtain ⟨u, h1, h2⟩ := h
  obtain ⟨u', k1, k2⟩ := F.carry h1 false
  exact ⟨F.room h1 false, F.room k2 true⟩
end
end Go.Proofs.Ytgkdabllaankcaa

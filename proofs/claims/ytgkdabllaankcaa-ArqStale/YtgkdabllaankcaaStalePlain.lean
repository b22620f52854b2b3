/- Two ends of a session to which inputs of another session come, plainly. No condition. -/
import Derived.Test.YtgkdabllaankcaaCloseStart
namespace Go.Proofs.Ytgkdabllaankcaa
set_option linter.unusedVariables false

/-- the CDM of the tag t -/
def zdm (t : Nat) : List UInt8 := Aq.hd t ++ enc 6 0 0 false 128 ++ []
namespace Aq
/-- c outputs more -/
def addZ (s : Aq) (Z : List UInt8) (c : Nat) : Aq := { s with os := s.os ++ List.replicate c Z }
theorem addZ_zero (s : Aq) (Z : List UInt8) : s.addZ Z 0 = s := by unfold addZ; rw [List.replicate_zero, List.append_nil]
theorem addZ_addZ (s : Aq) (Z : List UInt8) (c d : Nat) : (s.addZ Z c).addZ Z d = s.addZ Z (c + d) := by
  unfold addZ
  show ({ s with os := (s.os ++ List.replicate c Z) ++ List.replicate d Z } : Aq) = _
  rw [List.append_assoc, List.replicate_append_replicate]
end Aq
section
variable {s : Aq} {t k : Nat}
/-- what an input of another session does -/
theorem stale_in (hst : s.st = 2) (htg : s.tg = 1) (hm : s.m = 128) (ht : t < 65536) (h1 : t ≠ 1) (hk : k < 8) (ha : ¬ (k = 3 ∧ s.ahead t = true)) :
    s.input (Aq.hd t ++ enc (k : Int) 0 0 false 128) = s.addZ (zdm t) (if k = 5 then 1 else 0) := by
  have hr : right (k : Int) 0 0 128 = true := by
    have : ∀ k : Fin 8, right (k.val : Int) 0 0 128 = true := by decide +kernel
    exact this ⟨k, hk⟩
  have hin := Aq.input_enc (s := s) ht (k := (k : Int)) (ns := 0) (nr := 0) (p := false) (x := []) (by rw [hm]; exact hr)
  rw [hm, List.append_nil] at hin
  have hin : s.input (Aq.hd t ++ enc (k : Int) 0 0 false 128) = _ := hin
  rw [hin]
  have hne : ¬ t = s.tg := by rw [htg]; exact h1
  have hz : s.addZ (zdm t) 0 = s := s.addZ_zero _
  have hk' : k = 0 ∨ k = 1 ∨ k = 2 ∨ k = 3 ∨ k = 4 ∨ k = 5 ∨ k = 6 ∨ k = 7 := by omega
  rcases hk' with rfl | rfl | rfl | rfl | rfl | rfl | rfl | rfl
  · rw [if_neg (by decide), hz]
    show s.numbd t 0 0 0 false [] = s
    unfold Aq.numbd
    rw [if_neg (by omega), if_neg (fun h => hne h.1)]
  · rw [if_neg (by decide), hz]
    show s.numbd t 1 0 0 false [] = s
    unfold Aq.numbd
    rw [if_neg (by omega), if_neg (fun h => hne h.1)]
  · rw [if_neg (by decide), hz]
    show s.numbd t 2 0 0 false [] = s
    unfold Aq.numbd
    rw [if_neg (by omega), if_neg (fun h => hne h.1)]
  · rw [if_neg (by decide), hz]
    show s.request t false = s
    unfold Aq.request
    rw [if_neg (by omega), if_neg (fun h => hne h.2), if_neg (fun h => h.elim (fun h => hne h.2) (fun h => ha ⟨rfl, h⟩)), if_neg (by omega)]
  · rw [if_neg (by decide), hz]
    show s.ua t = s
    unfold Aq.ua
    rw [if_neg (fun h => hne h.1), if_neg (fun h => hne h.1)]
  · rw [if_pos rfl]
    show s.disc t false = _
    unfold Aq.disc
    rw [if_neg (fun h => hne h.1)]
    have e : s.os ++ [Aq.hd t ++ enc 6 0 0 false (s.m : Int) ++ []] = s.os ++ List.replicate 1 (zdm t) := by rw [hm]; rfl
    show ({ s with os := s.os ++ [Aq.hd t ++ enc 6 0 0 false (s.m : Int) ++ []] } : Aq) = { s with os := s.os ++ List.replicate 1 (zdm t) }
    rw [e]
  · rw [if_neg (by decide), hz]
    show s.dm t = s
    unfold Aq.dm
    rw [if_neg (by omega), if_neg (fun h => hne h.1)]
  · rw [if_neg (by decide), hz]
    show s.frmr t = s
    unfold Aq.frmr
    rw [if_neg (fun h => hne h.1)]
theorem tag_ne {x y : List UInt8} (ht : t < 65536) (h1 : t ≠ 1) : Aq.hd 1 ++ x ≠ Aq.hd t ++ y := by
  intro h
  have := congrArg Aq.tagOf h
  rw [Aq.tag_of_hd (by decide), Aq.tag_of_hd ht] at this
  omega
theorem void_dm (ht : t < 65536) (h1 : t ≠ 1) : Void (zdm t) where
  at_ := fun s hst htg hm => by
    have hin := Aq.input_enc (s := s) ht (k := 6) (ns := 0) (nr := 0) (p := false) (x := []) (by rw [hm]; exact Aq.right_bare (.inl rfl) (by decide))
    rw [hm] at hin
    have hin : s.input (zdm t) = _ := hin
    rw [hin]
    show s.dm t = s
    unfold Aq.dm
    rw [if_neg (by omega), if_neg (fun h => by have := h.1; omega)]
  len := by
    unfold zdm
    rw [List.length_append, List.length_append]
    have := enc_len 6 0 0 false 128
    show 2 + _ + 0 ≤ _
    omega
  notI := fun e L p x => by unfold itI zdm; rw [List.append_assoc, List.append_assoc]; exact tag_ne ht h1
  notR := fun k e p => by unfold itR zdm; rw [List.append_assoc, List.append_assoc]; exact tag_ne ht h1
end
section
variable {q : Pr} {Z : List UInt8} {n j k c : Nat}
/-- both ends with c outputs more -/
def both2 (q : Pr) (Z : List UInt8) (c : Nat) : Pr := (q.setA false ((q.a false).addZ Z c)).setA true ((q.a true).addZ Z c)
theorem both2_zero (q : Pr) (Z : List UInt8) : both2 q Z 0 = q := by
  unfold both2
  rw [Aq.addZ_zero, Aq.addZ_zero, Pr.setA_self, Pr.setA_self]
theorem both2_next (q : Pr) (Z : List UInt8) (c d : Nat) : ((both2 q Z c).setA false ((q.a false).addZ Z (c + d))).setA true ((q.a true).addZ Z (c + d)) = both2 q Z (c + d) := by
  unfold both2 Pr.setA
  congr 1
  funext i
  cases i <;> rfl
theorem both2_room (h : Line (wins n) Z j k q) (hw : (q.way false).length ≤ 100 ∧ (q.way true).length ≤ 100) (hn : n ≤ 100) (hc : c ≤ 100) : (both2 q Z c).Room ∧ ∀ i, ((q.a i).addZ Z c).Room := by
  have C := h.calm (by rw [wins_len]; exact hn)
  have ho : ∀ i, ((q.a i).addZ Z c).os.length = c := fun i => by show ((q.a i).os ++ List.replicate c Z).length = c; rw [(C.dry i).1, List.nil_append, List.length_replicate]
  refine ⟨⟨fun i => ?_, fun i => ?_, fun i => ?_, ?_⟩, fun i => ⟨by rw [ho]; omega, by show (q.a i).is.length ≤ _; rw [(C.dry i).2.1]; decide, ?_, by show (q.a i).sn ≤ _; have := (C.cs i).1; omega, by show (q.a i).ak ≤ _; have := (C.cs i).2.1; omega, by show (q.a i).lo ≤ _; have := (C.cs i).2.2; omega⟩⟩
  · cases i
    · show (q.way false).length + ((q.a false).addZ Z c).os.length ≤ _; rw [ho]; omega
    · show (q.way true).length + ((q.a true).addZ Z c).os.length ≤ _; rw [ho]; omega
  · have := C.hd i
    cases i
    · show (q.heard false).length + (q.a false).od.r.length ≤ _; rw [(C.dry false).2.2]; show _ + 0 ≤ _; omega
    · show (q.heard true).length + (q.a true).od.r.length ≤ _; rw [(C.dry true).2.2]; show _ + 0 ≤ _; omega
  · cases i
    · show (q.a false).is.length ≤ _; rw [(C.dry false).2.1]; decide
    · show (q.a true).is.length ≤ _; rw [(C.dry true).2.1]; decide
  · show q.downs + (q.a false).is.length + (q.a true).is.length ≤ _
    rw [(C.dry false).2.1, (C.dry true).2.1, h.downs]
    decide
  · show (q.a i).od.all ≤ _
    unfold Od.all
    rw [C.k, (C.dry i).2.2]
    decide
theorem both2_line (h : Line (wins n) Z j k q) : Line (wins n) Z j k (both2 q Z c).collect ∧ (∀ i, ((both2 q Z c).collect.way i).length = (q.way i).length + c) := by
  have hd : ∀ i, ((q.a i).addZ Z c).dry = q.a i := fun i => by
    have e : ((q.a i).addZ Z c).dry = (q.a i).dry := rfl
    rw [e, (h.up i).2.2.2.same]
  have ha : ∀ i, (both2 q Z c).collect.a i = q.a i := fun i => by cases i <;> exact hd _
  have ho : ∀ i, ((q.a i).addZ Z c).os = List.replicate c Z := fun i => by show (q.a i).os ++ _ = _; rw [(h.up i).2.2.2.1, List.nil_append]
  have hw : ∀ i, (both2 q Z c).collect.way i = q.way i ++ List.replicate c Z := fun i => by
    cases i
    · show q.way false ++ ((q.a false).addZ Z c).os = _; rw [ho]
    · show q.way true ++ ((q.a true).addZ Z c).os = _; rw [ho]
  have hh : ∀ i, (both2 q Z c).collect.heard i = q.heard i := fun i => by
    cases i
    · show q.heard false ++ (q.a false).od.r = _; rw [h.da.2.2, List.append_nil]
    · show q.heard true ++ (q.a true).od.r = _; rw [h.db.2.2, List.append_nil]
  have hdn : (both2 q Z c).collect.downs = 0 := by
    show q.downs + dn (q.a false).is + dn (q.a true).is = _
    rw [h.da.2.1, h.db.2.1, h.downs]
    rfl
  have hk : ∀ i, keepZ Z ((both2 q Z c).collect.way i) = keepZ Z (q.way i) := fun i => by
    rw [hw, keepZ_cat]
    have : keepZ Z (List.replicate c Z) = [] := by
      unfold keepZ
      refine List.filter_eq_nil_iff.2 fun x hx => ?_
      rw [List.eq_of_mem_replicate hx]
      simp
    rw [this, List.append_nil]
  refine ⟨?_, fun i => by rw [hw, List.length_append, List.length_replicate]⟩
  obtain ⟨h1, h2, h3, h4, h5, h6, h7, h8, h9, h10, h11, h12, h13, h14, h15, h16, h17, h18, h19⟩ := h
  refine ⟨?_, ?_, ?_, ?_, ?_, ?_, ?_, ?_, ?_, ?_, ?_, ?_, h13, h14, (hk false).trans h15, (hk true).trans h16, by rw [hh]; exact h17, by rw [hh]; exact h18, hdn⟩
  all_goals rw [ha]; assumption
/-- how far from rest it begins -/
theorem both2_begin (h : Line (wins n) Z j k q) (hw : (q.way false).length ≤ 4 ∧ (q.way true).length ≤ 4) (hn : n ≤ 10) (hc : c ≤ 40) : ∃ u, u ≤ 300 ∧ LineJ (wins n) Z u (both2 q Z c).collect := by
  obtain ⟨h1, h2⟩ := both2_line (c := c) h
  have g1 := h2 false
  have g2 := h2 true
  have g3 := wins_len n
  exact ⟨_, by omega, j, k, h1, rfl, by omega⟩
end
theorem stale_ahead {s : Aq} (htg : s.tg = 1) {t : Nat} (ht : t < 65536) (h1 : t ≠ 1) : s.ahead t = decide (((t : Int) - 1) % 65536 ≤ 32767) := by
  unfold Aq.ahead
  rw [htg, decide_eq_true (by omega : 1 ≤ (t + 65536 - 1) % 65536), Bool.true_and]
  exact decide_eq_decide.2 (by omega)
end Go.Proofs.Ytgkdabllaankcaa

/- The reference's Check. Condition: the slice reads as its bytes. -/
import Derived.Test.YtnogdlekijpdhaaFcsCheck
import Derived.Deep.RegionWith
import Derived.Deep.RegionHeld3
namespace Go.Proofs.Ytnogdlekijpdhaa
open Go.RowKit
open Fcs
set_option linter.unusedVariables false

theorem refCheck_bad4 (b off c : Nat) (body tl : List UInt8) (k : Nat) (w : World) (hr : Rd w (some ⟨b, off, none⟩) body) (ht : Rd w (some ⟨b, off + k, none⟩) tl) (hk : k ≤ 1000) (hc : k + 4 ≤ c) (hcm : c ≤ 9223372036854775807)
    (e1 : Hid (body.length = k)) (e2 : Hid (tl.length = 4)) (hq : tl ≠ sumB true body) :
    Calls Try.prog 31 #[.slice (some ⟨b, off, none⟩) (k + 4) c, .bool true] w (Bad 2 w) := by
  have hne : (tl == sumB true body) = false := by simpa using hq
  have hne' : (tl != sumB true body) = true := by simpa using hq
  have cs : Calls Try.prog 28 #[.slice (some ⟨b, off, none⟩) k c, .bool true] w.drew fun e w' => e = .returned (.slice (some ⟨w.heap.size, 0, none⟩) 4 4) ∧ laid w.drew (sumB true body) = w' := by
    have := refsum_calls true (some ⟨b, off, none⟩) c body w.drew hr (by rw [e1.out]; unfold maxLen; omega)
    rw [e1.out] at this
    exact this
  have q0 : (convert 22 9 (.slice (some ⟨b, off + k, none⟩) 4 (c - k))).run Try.prog w.drew = .ok (.string ⟨tl.toArray⟩) w.drew := by
    have := run_conv w.drew (some ⟨b, off + k, none⟩) (c - k) tl ht
    rw [e2.out] at this
    exact this
  have q1 : (convert 22 9 (.slice (some ⟨b, off + k, none⟩) 4 (c - k))).run Try.prog (laid w.drew (sumB true body)) = .ok (.string ⟨tl.toArray⟩) (laid w.drew (sumB true body)) := by
    have h0 : Rd w.drew (some ⟨b, off + k, none⟩) tl := ht
    have := run_conv (laid w.drew (sumB true body)) (some ⟨b, off + k, none⟩) (c - k) tl (h0.below (laid_below _ _))
    rw [e2.out] at this
    exact this
  have q2 : (convert 22 9 (.slice (some ⟨w.heap.size, 0, none⟩) 4 4)).run Try.prog (laid w.drew (sumB true body)) = .ok (.string ⟨(sumB true body).toArray⟩) (laid w.drew (sumB true body)) := by
    have := run_conv (laid w.drew (sumB true body)) (some ⟨w.heap.size, 0, none⟩) 4 (sumB true body) (laid_rd w.drew _)
    rw [sumB_len] at this
    exact this
  have bel : Below w.heap.size w (laid w.drew (sumB true body)) := (Below.refl w.heap.size w).drew.trans (laid_below w.drew _)
  clear hq
  have i0 : (0 : Int) ≤ (k : Int) := by omega
  have i1 : (k : Int) ≤ (k : Int) + 4 := by omega
  have i2 : (k : Int) + 4 ≤ (c : Int) := by omega
  have i3 : (k : Int) ≤ (c : Int) := by omega
  have i4 : ¬ c = k := by omega
  have i5 : ¬ c - k = 0 := by omega
  go_enter Try.func31, Try.ntmps31
  go_wp2_with fail
  refine (tail_calls true w).mono ?_
  rintro e w' ⟨rfl, rfl⟩
  go_wp2_with fail
  go_region_held (fun w' => (convert 22 9 (.slice (some ⟨b, off + k, none⟩) 4 (c - k))).run Try.prog w' = .ok (.string ⟨tl.toArray⟩) w') (first | exact q0 | exact q1) (first | (go_at_call 28; refine cs.mono ?_; rintro e w' ⟨rfl, rfl⟩))
  go_wp2
  go_ret2
  exact ⟨rfl, bel⟩
theorem refCheck_good4 (b off c : Nat) (body tl : List UInt8) (k : Nat) (w : World) (hr : Rd w (some ⟨b, off, none⟩) body) (ht : Rd w (some ⟨b, off + k, none⟩) tl) (hk : k ≤ 1000) (hc : k + 4 ≤ c) (hcm : c ≤ 9223372036854775807)
    (e1 : Hid (body.length = k)) (e2 : Hid (tl.length = 4)) (hq : tl = sumB true body) :
    Calls Try.prog 31 #[.slice (some ⟨b, off, none⟩) (k + 4) c, .bool true] w (Good body w) := by
  have hne : (tl == sumB true body) = true := by simpa using hq
  have hne' : (tl != sumB true body) = false := by simpa using hq
  have cs : Calls Try.prog 28 #[.slice (some ⟨b, off, none⟩) k c, .bool true] w.drew fun e w' => e = .returned (.slice (some ⟨w.heap.size, 0, none⟩) 4 4) ∧ laid w.drew (sumB true body) = w' := by
    have := refsum_calls true (some ⟨b, off, none⟩) c body w.drew hr (by rw [e1.out]; unfold maxLen; omega)
    rw [e1.out] at this
    exact this
  have q0 : (convert 22 9 (.slice (some ⟨b, off + k, none⟩) 4 (c - k))).run Try.prog w.drew = .ok (.string ⟨tl.toArray⟩) w.drew := by
    have := run_conv w.drew (some ⟨b, off + k, none⟩) (c - k) tl ht
    rw [e2.out] at this
    exact this
  have q1 : (convert 22 9 (.slice (some ⟨b, off + k, none⟩) 4 (c - k))).run Try.prog (laid w.drew (sumB true body)) = .ok (.string ⟨tl.toArray⟩) (laid w.drew (sumB true body)) := by
    have h0 : Rd w.drew (some ⟨b, off + k, none⟩) tl := ht
    have := run_conv (laid w.drew (sumB true body)) (some ⟨b, off + k, none⟩) (c - k) tl (h0.below (laid_below _ _))
    rw [e2.out] at this
    exact this
  have q2 : (convert 22 9 (.slice (some ⟨w.heap.size, 0, none⟩) 4 4)).run Try.prog (laid w.drew (sumB true body)) = .ok (.string ⟨(sumB true body).toArray⟩) (laid w.drew (sumB true body)) := by
    have := run_conv (laid w.drew (sumB true body)) (some ⟨w.heap.size, 0, none⟩) 4 (sumB true body) (laid_rd w.drew _)
    rw [sumB_len] at this
    exact this
  have bel : Below w.heap.size w (laid w.drew (sumB true body)) := (Below.refl w.heap.size w).drew.trans (laid_below w.drew _)
  obtain ⟨A2, c2, w2, run2, own2, bel2⟩ := run_app (laid w.drew (sumB true body)) w.heap.size none 0 [] (Own.nil _ _) (some ⟨b, off, none⟩) c body (hr.below bel) (by simp; rw [e1.out]; omega) bel.size
  rw [List.nil_append] at run2 own2
  have hrd := Lib.hid own2
  have bel3 := bel.trans bel2
  rw [e1.out] at run2
  clear hq own2
  have i0 : (0 : Int) ≤ (k : Int) := by omega
  have i1 : (k : Int) ≤ (k : Int) + 4 := by omega
  have i2 : (k : Int) + 4 ≤ (c : Int) := by omega
  have i3 : (k : Int) ≤ (c : Int) := by omega
  have i4 : ¬ c = k := by omega
  have i5 : ¬ c - k = 0 := by omega
  go_enter Try.func31, Try.ntmps31
  go_wp2_with fail
  refine (tail_calls true w).mono ?_
  rintro e w' ⟨rfl, rfl⟩
  go_wp2_with fail
  go_region_held (fun w' => (convert 22 9 (.slice (some ⟨b, off + k, none⟩) 4 (c - k))).run Try.prog w' = .ok (.string ⟨tl.toArray⟩) w') (first | exact q0 | exact q1) (first | (go_at_call 28; refine cs.mono ?_; rintro e w' ⟨rfl, rfl⟩))
  go_wp2_with (at_builtin; refine Lib.wpList_append_run _ rfl _ _ _ _ rfl _ _ rfl rfl _ _ (run2 _) ?_)
  go_ret2
  exact ⟨A2, c2, by rw [e1.out]; rfl, hrd.out, bel3⟩
theorem refCheck_bad2 (b off c : Nat) (body tl : List UInt8) (k : Nat) (w : World) (hr : Rd w (some ⟨b, off, none⟩) body) (ht : Rd w (some ⟨b, off + k, none⟩) tl) (hk : k ≤ 1000) (hc : k + 2 ≤ c) (hcm : c ≤ 9223372036854775807)
    (e1 : Hid (body.length = k)) (e2 : Hid (tl.length = 2)) (hq : tl ≠ sumB false body) :
    Calls Try.prog 31 #[.slice (some ⟨b, off, none⟩) (k + 2) c, .bool false] w (Bad 2 w) := by
  have hne : (tl == sumB false body) = false := by simpa using hq
  have hne' : (tl != sumB false body) = true := by simpa using hq
  have cs : Calls Try.prog 28 #[.slice (some ⟨b, off, none⟩) k c, .bool false] w.drew fun e w' => e = .returned (.slice (some ⟨w.heap.size, 0, none⟩) 2 2) ∧ laid w.drew (sumB false body) = w' := by
    have := refsum_calls false (some ⟨b, off, none⟩) c body w.drew hr (by rw [e1.out]; unfold maxLen; omega)
    rw [e1.out] at this
    exact this
  have q0 : (convert 22 9 (.slice (some ⟨b, off + k, none⟩) 2 (c - k))).run Try.prog w.drew = .ok (.string ⟨tl.toArray⟩) w.drew := by
    have := run_conv w.drew (some ⟨b, off + k, none⟩) (c - k) tl ht
    rw [e2.out] at this
    exact this
  have q1 : (convert 22 9 (.slice (some ⟨b, off + k, none⟩) 2 (c - k))).run Try.prog (laid w.drew (sumB false body)) = .ok (.string ⟨tl.toArray⟩) (laid w.drew (sumB false body)) := by
    have h0 : Rd w.drew (some ⟨b, off + k, none⟩) tl := ht
    have := run_conv (laid w.drew (sumB false body)) (some ⟨b, off + k, none⟩) (c - k) tl (h0.below (laid_below _ _))
    rw [e2.out] at this
    exact this
  have q2 : (convert 22 9 (.slice (some ⟨w.heap.size, 0, none⟩) 2 2)).run Try.prog (laid w.drew (sumB false body)) = .ok (.string ⟨(sumB false body).toArray⟩) (laid w.drew (sumB false body)) := by
    have := run_conv (laid w.drew (sumB false body)) (some ⟨w.heap.size, 0, none⟩) 2 (sumB false body) (laid_rd w.drew _)
    rw [sumB_len] at this
    exact this
  have bel : Below w.heap.size w (laid w.drew (sumB false body)) := (Below.refl w.heap.size w).drew.trans (laid_below w.drew _)
  clear hq
  have i0 : (0 : Int) ≤ (k : Int) := by omega
  have i1 : (k : Int) ≤ (k : Int) + 2 := by omega
  have i2 : (k : Int) + 2 ≤ (c : Int) := by omega
  have i3 : (k : Int) ≤ (c : Int) := by omega
  have i4 : ¬ c = k := by omega
  have i5 : ¬ c - k = 0 := by omega
  go_enter Try.func31, Try.ntmps31
  go_wp2_with fail
  refine (tail_calls false w).mono ?_
  rintro e w' ⟨rfl, rfl⟩
  go_wp2_with fail
  go_region_held (fun w' => (convert 22 9 (.slice (some ⟨b, off + k, none⟩) 2 (c - k))).run Try.prog w' = .ok (.string ⟨tl.toArray⟩) w') (first | exact q0 | exact q1) (first | (go_at_call 28; refine cs.mono ?_; rintro e w' ⟨rfl, rfl⟩))
  go_wp2
  go_ret2
  exact ⟨rfl, bel⟩
theorem refCheck_good2 (b off c : Nat) (body tl : List UInt8) (k : Nat) (w : World) (hr : Rd w (some ⟨b, off, none⟩) body) (ht : Rd w (some ⟨b, off + k, none⟩) tl) (hk : k ≤ 1000) (hc : k + 2 ≤ c) (hcm : c ≤ 9223372036854775807)
    (e1 : Hid (body.length = k)) (e2 : Hid (tl.length = 2)) (hq : tl = sumB false body) :
    Calls Try.prog 31 #[.slice (some ⟨b, off, none⟩) (k + 2) c, .bool false] w (Good body w) := by
  have hne : (tl == sumB false body) = true := by simpa using hq
  have hne' : (tl != sumB false body) = false := by simpa using hq
  have cs : Calls Try.prog 28 #[.slice (some ⟨b, off, none⟩) k c, .bool false] w.drew fun e w' => e = .returned (.slice (some ⟨w.heap.size, 0, none⟩) 2 2) ∧ laid w.drew (sumB false body) = w' := by
    have := refsum_calls false (some ⟨b, off, none⟩) c body w.drew hr (by rw [e1.out]; unfold maxLen; omega)
    rw [e1.out] at this
    exact this
  have q0 : (convert 22 9 (.slice (some ⟨b, off + k, none⟩) 2 (c - k))).run Try.prog w.drew = .ok (.string ⟨tl.toArray⟩) w.drew := by
    have := run_conv w.drew (some ⟨b, off + k, none⟩) (c - k) tl ht
    rw [e2.out] at this
    exact this
  have q1 : (convert 22 9 (.slice (some ⟨b, off + k, none⟩) 2 (c - k))).run Try.prog (laid w.drew (sumB false body)) = .ok (.string ⟨tl.toArray⟩) (laid w.drew (sumB false body)) := by
    have h0 : Rd w.drew (some ⟨b, off + k, none⟩) tl := ht
    have := run_conv (laid w.drew (sumB false body)) (some ⟨b, off + k, none⟩) (c - k) tl (h0.below (laid_below _ _))
    rw [e2.out] at this
    exact this
  have q2 : (convert 22 9 (.slice (some ⟨w.heap.size, 0, none⟩) 2 2)).run Try.prog (laid w.drew (sumB false body)) = .ok (.string ⟨(sumB false body).toArray⟩) (laid w.drew (sumB false body)) := by
    have := run_conv (laid w.drew (sumB false body)) (some ⟨w.heap.size, 0, none⟩) 2 (sumB false body) (laid_rd w.drew _)
    rw [sumB_len] at this
    exact this
  have bel : Below w.heap.size w (laid w.drew (sumB false body)) := (Below.refl w.heap.size w).drew.trans (laid_below w.drew _)
  obtain ⟨A2, c2, w2, run2, own2, bel2⟩ := run_app (laid w.drew (sumB false body)) w.heap.size none 0 [] (Own.nil _ _) (some ⟨b, off, none⟩) c body (hr.below bel) (by simp; rw [e1.out]; omega) bel.size
  rw [List.nil_append] at run2 own2
  have hrd := Lib.hid own2
  have bel3 := bel.trans bel2
  rw [e1.out] at run2
  clear hq own2
  have i0 : (0 : Int) ≤ (k : Int) := by omega
  have i1 : (k : Int) ≤ (k : Int) + 2 := by omega
  have i2 : (k : Int) + 2 ≤ (c : Int) := by omega
  have i3 : (k : Int) ≤ (c : Int) := by omega
  have i4 : ¬ c = k := by omega
  have i5 : ¬ c - k = 0 := by omega
  go_enter Try.func31, Try.ntmps31
  go_wp2_with fail
  refine (tail_calls false w).mono ?_
  rintro e w' ⟨rfl, rfl⟩
  go_wp2_with fail
  go_region_held (fun w' => (convert 22 9 (.slice (some ⟨b, off + k, none⟩) 2 (c - k))).run Try.prog w' = .ok (.string ⟨tl.toArray⟩) w') (first | exact q0 | exact q1) (first | (go_at_call 28; refine cs.mono ?_; rintro e w' ⟨rfl, rfl⟩))
  go_wp2_with (at_builtin; refine Lib.wpList_append_run _ rfl _ _ _ _ rfl _ _ rfl rfl _ _ (run2 _) ?_)
  go_ret2
  exact ⟨A2, c2, by rw [e1.out]; rfl, hrd.out, bel3⟩

/-- what the bytes l are told: 3 too short, 2 a wrong sum, 0 right -/
def chkE (wide : Bool) (l : List UInt8) : Int :=
  if l.length < sumN wide then 3 else if l.drop (l.length - sumN wide) = sumB wide (l.take (l.length - sumN wide)) then 0 else 2
def chkB (wide : Bool) (l : List UInt8) : List UInt8 := if chkE wide l = 0 then l.take (l.length - sumN wide) else []
/-- The call returns what the document says of l: the bytes without their sum and 0, or nothing and the error. -/
def Chk (wide : Bool) (l : List UInt8) (w : World) (e : Ending) (w' : World) : Prop :=
  ∃ B d, e = .returned (.tuple #[.slice B (chkB wide l).length d, .int .i64 (chkE wide l)]) ∧ Rd w' B (chkB wide l) ∧ Below w.heap.size w w'
/-- The same; and what is returned lies in new memory. -/
def ChkOwn (wide : Bool) (l : List UInt8) (w : World) (e : Ending) (w' : World) : Prop :=
  ∃ B d, e = .returned (.tuple #[.slice B (chkB wide l).length d, .int .i64 (chkE wide l)]) ∧ Own w' w.heap.size B d (chkB wide l) ∧ Below w.heap.size w w'
theorem ChkOwn.chk {wide : Bool} {l : List UInt8} {w : World} {e : Ending} {w' : World} (h : ChkOwn wide l w e w') : Chk wide l w e w' := by
  obtain ⟨B, d, h1, h2, h3⟩ := h
  exact ⟨B, d, h1, h2.rd, h3⟩
theorem ChkOwn.bad {wide : Bool} {l : List UInt8} {w : World} {n : Int} {e : Ending} {w' : World} (hn : n ≠ 0) (h : chkE wide l = n) (hb : Bad n w e w') : ChkOwn wide l w e w' := by
  have hB : chkB wide l = [] := by rw [chkB, h, if_neg hn]
  exact ⟨none, 0, by rw [hB, h]; exact hb.1, by rw [hB]; exact Own.nil _ _, hb.2⟩
theorem ChkOwn.good {wide : Bool} {l : List UInt8} {w : World} {e : Ending} {w' : World} (h : chkE wide l = 0) (hg : Good (l.take (l.length - sumN wide)) w e w') : ChkOwn wide l w e w' := by
  have hB : chkB wide l = l.take (l.length - sumN wide) := by rw [chkB, if_pos h]
  obtain ⟨B, d, h1, h2, h3⟩ := hg
  exact ⟨B, d, by rw [hB, h]; exact h1, by rw [hB]; exact h2, h3⟩
theorem check_short (wide : Bool) (A : Option Addr) (n c : Nat) (w : World) (h : n < sumN wide) : Calls Try.prog 29 #[.slice A n c, .bool wide] w (Bad 3 w) := by
  cases wide
  all_goals
    unfold sumN at h
    simp at h
    go_enter Try.func29, Try.ntmps29
    go_wp2_with fail
    refine (size_calls _ w).mono ?_
    rintro e w' ⟨rfl, rfl⟩
    go_wp2
    go_ret2
    exact ⟨rfl, Below.refl _ _⟩
theorem refCheck_short (wide : Bool) (A : Option Addr) (n c : Nat) (w : World) (h : n < sumN wide) : Calls Try.prog 31 #[.slice A n c, .bool wide] w (Bad 3 w) := by
  cases wide
  all_goals
    unfold sumN at h
    simp at h
    go_enter Try.func31, Try.ntmps31
    go_wp2_with fail
    refine (tail_calls _ w).mono ?_
    rintro e w' ⟨rfl, rfl⟩
    go_wp2
    go_ret2
    exact ⟨rfl, Below.refl _ _⟩
theorem cut_parts (wide : Bool) (A : Option Addr) (l : List UInt8) (w : World) (hr : Rd w A l) (h : ¬ l.length < sumN wide) :
    ∃ b off, A = some ⟨b, off, none⟩ ∧ Rd w (some ⟨b, off, none⟩) (l.take (l.length - sumN wide)) ∧ Rd w (some ⟨b, off + (l.length - sumN wide), none⟩) (l.drop (l.length - sumN wide)) := by
  have hs : 0 < sumN wide := by cases wide <;> decide
  obtain ⟨b, off, rfl, hc⟩ := hr (by rintro rfl; simp at h; omega)
  refine ⟨b, off, rfl, hr.front _, hr.rest _ _ (fun _ b' off' h' => by injection h' with h'; injection h' with h1 h2; subst h1 h2; rfl)⟩
theorem checkOwn_calls (wide : Bool) (A : Option Addr) (c : Nat) (l : List UInt8) (w : World) (hr : Rd w A l) (hl : l.length ≤ 1000) (hc : l.length ≤ c) (hcm : c ≤ maxLen) :
    Calls Try.prog 29 #[.slice A l.length c, .bool wide] w (ChkOwn wide l w) := by
  unfold maxLen at hcm
  by_cases hsh : l.length < sumN wide
  · exact (check_short wide A l.length c w hsh).mono fun _ _ h => ChkOwn.bad (by decide) (by rw [chkE, if_pos hsh]) h
  · obtain ⟨b, off, rfl, h1, h2⟩ := cut_parts wide A l w hr hsh
    have hk : l.length = l.length - sumN wide + sumN wide := by omega
    have e1 : (l.take (l.length - sumN wide)).length = l.length - sumN wide := by simp
    have e2 : (l.drop (l.length - sumN wide)).length = sumN wide := by simp; omega
    rw [hk]
    rw [← hk]
    by_cases hq : l.drop (l.length - sumN wide) = sumB wide (l.take (l.length - sumN wide))
    · have hE : chkE wide l = 0 := by rw [chkE, if_neg hsh, if_pos hq]
      refine Calls.mono ?_ fun _ _ h => ChkOwn.good hE h
      conv => arg 3; rw [hk]
      cases wide
      · exact check_good2 b off c _ _ _ w h1 h2 (by omega) (by simp [sumN] at hk ⊢; omega) hcm e1 e2 hq
      · exact check_good4 b off c _ _ _ w h1 h2 (by omega) (by simp [sumN] at hk ⊢; omega) hcm e1 e2 hq
    · have hE : chkE wide l = 2 := by rw [chkE, if_neg hsh, if_neg hq]
      refine Calls.mono ?_ fun _ _ h => ChkOwn.bad (by decide) hE h
      conv => arg 3; rw [hk]
      cases wide
      · exact check_bad2 b off c _ _ _ w h1 h2 (by omega) (by simp [sumN] at hk ⊢; omega) hcm e1 e2 hq
      · exact check_bad4 b off c _ _ _ w h1 h2 (by omega) (by simp [sumN] at hk ⊢; omega) hcm e1 e2 hq
theorem refCheckOwn_calls (wide : Bool) (A : Option Addr) (c : Nat) (l : List UInt8) (w : World) (hr : Rd w A l) (hl : l.length ≤ 1000) (hc : l.length ≤ c) (hcm : c ≤ maxLen) :
    Calls Try.prog 31 #[.slice A l.length c, .bool wide] w (ChkOwn wide l w) := by
  unfold maxLen at hcm
  by_cases hsh : l.length < sumN wide
  · exact (refCheck_short wide A l.length c w hsh).mono fun _ _ h => ChkOwn.bad (by decide) (by rw [chkE, if_pos hsh]) h
  · obtain ⟨b, off, rfl, h1, h2⟩ := cut_parts wide A l w hr hsh
    have hk : l.length = l.length - sumN wide + sumN wide := by omega
    have e1 : (l.take (l.length - sumN wide)).length = l.length - sumN wide := by simp
    have e2 : (l.drop (l.length - sumN wide)).length = sumN wide := by simp; omega
    rw [hk]
    rw [← hk]
    by_cases hq : l.drop (l.length - sumN wide) = sumB wide (l.take (l.length - sumN wide))
    · have hE : chkE wide l = 0 := by rw [chkE, if_neg hsh, if_pos hq]
      refine Calls.mono ?_ fun _ _ h => ChkOwn.good hE h
      conv => arg 3; rw [hk]
      cases wide
      · exact refCheck_good2 b off c _ _ _ w h1 h2 (by omega) (by simp [sumN] at hk ⊢; omega) hcm e1 e2 hq
      · exact refCheck_good4 b off c _ _ _ w h1 h2 (by omega) (by simp [sumN] at hk ⊢; omega) hcm e1 e2 hq
    · have hE : chkE wide l = 2 := by rw [chkE, if_neg hsh, if_neg hq]
      refine Calls.mono ?_ fun _ _ h => ChkOwn.bad (by decide) hE h
      conv => arg 3; rw [hk]
      cases wide
      · exact refCheck_bad2 b off c _ _ _ w h1 h2 (by omega) (by simp [sumN] at hk ⊢; omega) hcm e1 e2 hq
      · exact refCheck_bad4 b off c _ _ _ w h1 h2 (by omega) (by simp [sumN] at hk ⊢; omega) hcm e1 e2 hq
theorem check_calls (wide : Bool) (A : Option Addr) (c : Nat) (l : List UInt8) (w : World) (hr : Rd w A l) (hl : l.length ≤ 1000) (hc : l.length ≤ c) (hcm : c ≤ maxLen) :
    Calls Try.prog 29 #[.slice A l.length c, .bool wide] w (Chk wide l w) :=
  (checkOwn_calls wide A c l w hr hl hc hcm).mono fun _ _ h => h.chk
theorem refCheck_calls (wide : Bool) (A : Option Addr) (c : Nat) (l : List UInt8) (w : World) (hr : Rd w A l) (hl : l.length ≤ 1000) (hc : l.length ≤ c) (hcm : c ≤ maxLen) :
    Calls Try.prog 31 #[.slice A l.length c, .bool wide] w (Chk wide l w) :=
  (refCheckOwn_calls wide A c l w hr hl hc hcm).mono fun _ _ h => h.chk
end Go.Proofs.Ytnogdlekijpdhaa

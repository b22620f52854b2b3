/- The program's Check and the reference's. Condition: the slice reads as its bytes. -/
import Derived.Test.YtnogdlekijpdhaaFcsPut
import Derived.Deep.RegionWith
import Derived.Deep.RegionHeld3
namespace Go.Proofs.Ytnogdlekijpdhaa
open Go.RowKit
open Fcs
set_option linter.unusedVariables false

def Good (body : List UInt8) (w : World) (e : Ending) (w' : World) : Prop := ∃ B d, e = .returned (.tuple #[.slice B body.length d, .int .i64 0]) ∧ Own w' w.heap.size B d body ∧ Below w.heap.size w w'
def Bad (n : Int) (w : World) (e : Ending) (w' : World) : Prop := e = .returned (.tuple #[.slice none 0 0, .int .i64 n]) ∧ Below w.heap.size w w'

theorem check_bad4 (b off c : Nat) (body tl : List UInt8) (k : Nat) (w : World) (hr : Rd w (some ⟨b, off, none⟩) body) (ht : Rd w (some ⟨b, off + k, none⟩) tl) (hk : k ≤ 1000) (hc : k + 4 ≤ c) (hcm : c ≤ 9223372036854775807)
    (e1 : Hid (body.length = k)) (e2 : Hid (tl.length = 4)) (hq : tl ≠ sumB true body) :
    Calls Try.prog 29 #[.slice (some ⟨b, off, none⟩) (k + 4) c, .bool true] w (Bad 2 w) := by
  have hne : (tl == sumB true body) = false := by simpa using hq
  have cs : Calls Try.prog 33 #[.slice (some ⟨b, off, none⟩) k c, .bool true] w.drew fun e w' => e = .returned (.slice (some ⟨w.heap.size, 0, none⟩) 4 4) ∧ laid w.drew (sumB true body) = w' := by
    have := checksum_calls true (some ⟨b, off, none⟩) c body w.drew hr (by rw [e1.out]; unfold maxLen; omega)
    rw [e1.out] at this
    exact this
  have eq : Calls Try.prog 37 #[.slice (some ⟨b, off + k, none⟩) 4 (c - k), .slice (some ⟨w.heap.size, 0, none⟩) 4 4] (laid w.drew (sumB true body)) fun e w' => e = .returned (.bool false) ∧ laid w.drew (sumB true body) = w' := by
    have h0 : Rd w.drew (some ⟨b, off + k, none⟩) tl := ht
    have := equal_calls (some ⟨b, off + k, none⟩) (c - k) tl (some ⟨w.heap.size, 0, none⟩) 4 (sumB true body) (laid w.drew (sumB true body)) (h0.below (laid_below _ _)) (laid_rd w.drew _)
    rw [e2.out, sumB_len, hne] at this
    exact this
  have bel : Below w.heap.size w (laid w.drew (sumB true body)) := (Below.refl w.heap.size w).drew.trans (laid_below w.drew _)
  clear hne hq
  have i0 : (0 : Int) ≤ (k : Int) := by omega
  have i1 : (k : Int) ≤ (k : Int) + 4 := by omega
  have i2 : (k : Int) + 4 ≤ (c : Int) := by omega
  have i3 : (k : Int) ≤ (c : Int) := by omega
  have i4 : ¬ c = k := by omega
  have i5 : ¬ c - k = 0 := by omega
  go_enter Try.func29, Try.ntmps29
  go_wp2_with fail
  refine (size_calls true w).mono ?_
  rintro e w' ⟨rfl, rfl⟩
  go_wp2_with fail
  go_region_held3 (fun _ => True) (trivial) (first | (go_at_call 33; refine cs.mono ?_; rintro e w' ⟨rfl, rfl⟩) | (go_at_call 37; refine eq.mono ?_; rintro e w' ⟨rfl, rfl⟩))
  go_wp2
  go_ret2
  exact ⟨rfl, bel⟩
theorem check_good4 (b off c : Nat) (body tl : List UInt8) (k : Nat) (w : World) (hr : Rd w (some ⟨b, off, none⟩) body) (ht : Rd w (some ⟨b, off + k, none⟩) tl) (hk : k ≤ 1000) (hc : k + 4 ≤ c) (hcm : c ≤ 9223372036854775807)
    (e1 : Hid (body.length = k)) (e2 : Hid (tl.length = 4)) (hq : tl = sumB true body) :
    Calls Try.prog 29 #[.slice (some ⟨b, off, none⟩) (k + 4) c, .bool true] w (Good body w) := by
  have hne : (tl == sumB true body) = true := by simpa using hq
  have cs : Calls Try.prog 33 #[.slice (some ⟨b, off, none⟩) k c, .bool true] w.drew fun e w' => e = .returned (.slice (some ⟨w.heap.size, 0, none⟩) 4 4) ∧ laid w.drew (sumB true body) = w' := by
    have := checksum_calls true (some ⟨b, off, none⟩) c body w.drew hr (by rw [e1.out]; unfold maxLen; omega)
    rw [e1.out] at this
    exact this
  have eq : Calls Try.prog 37 #[.slice (some ⟨b, off + k, none⟩) 4 (c - k), .slice (some ⟨w.heap.size, 0, none⟩) 4 4] (laid w.drew (sumB true body)) fun e w' => e = .returned (.bool true) ∧ laid w.drew (sumB true body) = w' := by
    have h0 : Rd w.drew (some ⟨b, off + k, none⟩) tl := ht
    have := equal_calls (some ⟨b, off + k, none⟩) (c - k) tl (some ⟨w.heap.size, 0, none⟩) 4 (sumB true body) (laid w.drew (sumB true body)) (h0.below (laid_below _ _)) (laid_rd w.drew _)
    rw [e2.out, sumB_len, hne] at this
    exact this
  have bel : Below w.heap.size w (laid w.drew (sumB true body)) := (Below.refl w.heap.size w).drew.trans (laid_below w.drew _)
  have cl : Calls Try.prog 38 #[.slice (some ⟨b, off, none⟩) k c] (laid w.drew (sumB true body)) (GivesOwn body (laid w.drew (sumB true body))) := by
    have := cloneOwn_calls (some ⟨b, off, none⟩) c body (laid w.drew (sumB true body)) (hr.below bel) (by rw [e1.out]; omega)
    rw [e1.out] at this
    exact this
  clear hne hq
  have i0 : (0 : Int) ≤ (k : Int) := by omega
  have i1 : (k : Int) ≤ (k : Int) + 4 := by omega
  have i2 : (k : Int) + 4 ≤ (c : Int) := by omega
  have i3 : (k : Int) ≤ (c : Int) := by omega
  have i4 : ¬ c = k := by omega
  have i5 : ¬ c - k = 0 := by omega
  go_enter Try.func29, Try.ntmps29
  go_wp2_with fail
  refine (size_calls true w).mono ?_
  rintro e w' ⟨rfl, rfl⟩
  go_wp2_with fail
  go_region_held3 (fun _ => True) (trivial) (first | (go_at_call 33; refine cs.mono ?_; rintro e w' ⟨rfl, rfl⟩) | (go_at_call 37; refine eq.mono ?_; rintro e w' ⟨rfl, rfl⟩))
  go_wp2_with fail
  refine cl.mono ?_
  rintro e w' ⟨B, d, rfl, hB, hb2⟩
  go_wp2
  go_ret2
  exact ⟨B, d, rfl, own_mono hB bel.size, bel.trans (hb2.mono bel.size)⟩
theorem check_bad2 (b off c : Nat) (body tl : List UInt8) (k : Nat) (w : World) (hr : Rd w (some ⟨b, off, none⟩) body) (ht : Rd w (some ⟨b, off + k, none⟩) tl) (hk : k ≤ 1000) (hc : k + 2 ≤ c) (hcm : c ≤ 9223372036854775807)
    (e1 : Hid (body.length = k)) (e2 : Hid (tl.length = 2)) (hq : tl ≠ sumB false body) :
    Calls Try.prog 29 #[.slice (some ⟨b, off, none⟩) (k + 2) c, .bool false] w (Bad 2 w) := by
  have hne : (tl == sumB false body) = false := by simpa using hq
  have cs : Calls Try.prog 33 #[.slice (some ⟨b, off, none⟩) k c, .bool false] w.drew fun e w' => e = .returned (.slice (some ⟨w.heap.size, 0, none⟩) 2 2) ∧ laid w.drew (sumB false body) = w' := by
    have := checksum_calls false (some ⟨b, off, none⟩) c body w.drew hr (by rw [e1.out]; unfold maxLen; omega)
    rw [e1.out] at this
    exact this
  have eq : Calls Try.prog 37 #[.slice (some ⟨b, off + k, none⟩) 2 (c - k), .slice (some ⟨w.heap.size, 0, none⟩) 2 2] (laid w.drew (sumB false body)) fun e w' => e = .returned (.bool false) ∧ laid w.drew (sumB false body) = w' := by
    have h0 : Rd w.drew (some ⟨b, off + k, none⟩) tl := ht
    have := equal_calls (some ⟨b, off + k, none⟩) (c - k) tl (some ⟨w.heap.size, 0, none⟩) 2 (sumB false body) (laid w.drew (sumB false body)) (h0.below (laid_below _ _)) (laid_rd w.drew _)
    rw [e2.out, sumB_len, hne] at this
    exact this
  have bel : Below w.heap.size w (laid w.drew (sumB false body)) := (Below.refl w.heap.size w).drew.trans (laid_below w.drew _)
  clear hne hq
  have i0 : (0 : Int) ≤ (k : Int) := by omega
  have i1 : (k : Int) ≤ (k : Int) + 2 := by omega
  have i2 : (k : Int) + 2 ≤ (c : Int) := by omega
  have i3 : (k : Int) ≤ (c : Int) := by omega
  have i4 : ¬ c = k := by omega
  have i5 : ¬ c - k = 0 := by omega
  go_enter Try.func29, Try.ntmps29
  go_wp2_with fail
  refine (size_calls false w).mono ?_
  rintro e w' ⟨rfl, rfl⟩
  go_wp2_with fail
  go_region_held3 (fun _ => True) (trivial) (first | (go_at_call 33; refine cs.mono ?_; rintro e w' ⟨rfl, rfl⟩) | (go_at_call 37; refine eq.mono ?_; rintro e w' ⟨rfl, rfl⟩))
  go_wp2
  go_ret2
  exact ⟨rfl, bel⟩
theorem check_good2 (b off c : Nat) (body tl : List UInt8) (k : Nat) (w : World) (hr : Rd w (some ⟨b, off, none⟩) body) (ht : Rd w (some ⟨b, off + k, none⟩) tl) (hk : k ≤ 1000) (hc : k + 2 ≤ c) (hcm : c ≤ 9223372036854775807)
    (e1 : Hid (body.length = k)) (e2 : Hid (tl.length = 2)) (hq : tl = sumB false body) :
    Calls Try.prog 29 #[.slice (some ⟨b, off, none⟩) (k + 2) c, .bool false] w (Good body w) := by
  have hne : (tl == sumB false body) = true := by simpa using hq
  have cs : Calls Try.prog 33 #[.slice (some ⟨b, off, none⟩) k c, .bool false] w.drew fun e w' => e = .returned (.slice (some ⟨w.heap.size, 0, none⟩) 2 2) ∧ laid w.drew (sumB false body) = w' := by
    have := checksum_calls false (some ⟨b, off, none⟩) c body w.drew hr (by rw [e1.out]; unfold maxLen; omega)
    rw [e1.out] at this
    exact this
  have eq : Calls Try.prog 37 #[.slice (some ⟨b, off + k, none⟩) 2 (c - k), .slice (some ⟨w.heap.size, 0, none⟩) 2 2] (laid w.drew (sumB false body)) fun e w' => e = .returned (.bool true) ∧ laid w.drew (sumB false body) = w' := by
    have h0 : Rd w.drew (some ⟨b, off + k, none⟩) tl := ht
    have := equal_calls (some ⟨b, off + k, none⟩) (c - k) tl (some ⟨w.heap.size, 0, none⟩) 2 (sumB false body) (laid w.drew (sumB false body)) (h0.below (laid_below _ _)) (laid_rd w.drew _)
    rw [e2.out, sumB_len, hne] at this
    exact this
  have bel : Below w.heap.size w (laid w.drew (sumB false body)) := (Below.refl w.heap.size w).drew.trans (laid_below w.drew _)
  have cl : Calls Try.prog 38 #[.slice (some ⟨b, off, none⟩) k c] (laid w.drew (sumB false body)) (GivesOwn body (laid w.drew (sumB false body))) := by
    have := cloneOwn_calls (some ⟨b, off, none⟩) c body (laid w.drew (sumB false body)) (hr.below bel) (by rw [e1.out]; omega)
    rw [e1.out] at this
    exact this
  clear hne hq
  have i0 : (0 : Int) ≤ (k : Int) := by omega
  have i1 : (k : Int) ≤ (k : Int) + 2 := by omega
  have i2 : (k : Int) + 2 ≤ (c : Int) := by omega
  have i3 : (k : Int) ≤ (c : Int) := by omega
  have i4 : ¬ c = k := by omega
  have i5 : ¬ c - k = 0 := by omega
  go_enter Try.func29, Try.ntmps29
  go_wp2_with fail
  refine (size_calls false w).mono ?_
  rintro e w' ⟨rfl, rfl⟩
  go_wp2_with fail
  go_region_held3 (fun _ => True) (trivial) (first | (go_at_call 33; refine cs.mono ?_; rintro e w' ⟨rfl, rfl⟩) | (go_at_call 37; refine eq.mono ?_; rintro e w' ⟨rfl, rfl⟩))
  go_wp2_with fail
  refine cl.mono ?_
  rintro e w' ⟨B, d, rfl, hB, hb2⟩
  go_wp2
  go_ret2
  exact ⟨B, d, rfl, own_mono hB bel.size, bel.trans (hb2.mono bel.size)⟩
end Go.Proofs.Ytnogdlekijpdhaa

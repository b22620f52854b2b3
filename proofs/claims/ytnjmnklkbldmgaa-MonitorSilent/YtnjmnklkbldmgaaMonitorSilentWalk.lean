/- The law MonitorSilent, walked. Condition: the slice reads as its ints. -/
import Derived.Test.YtnjmnklkbldmgaaMonOne
import Derived.Test.YtnjmnklkbldmgaaIntRows
import Derived.Laws.BitsLemmas
namespace Go.Proofs.Ytnjmnklkbldmgaa
open Go.RowKit
set_option linter.unusedVariables false

theorem and63_range (n : Int) : 0 ≤ bits .and .i64 n 63 ∧ bits .and .i64 n 63 ≤ 63 := by
  have h : (BitVec.ofInt 64 n &&& BitVec.ofInt 64 63).toNat ≤ 63 := by
    rw [BitVec.toNat_and]
    exact Nat.and_le_right
  have e : bits .and .i64 n 63 = IntKind.i64.wrap ((BitVec.ofInt 64 n &&& BitVec.ofInt 64 63).toNat : Nat) := rfl
  rw [e, IntKind.wrap_i64]
  omega
set_option maxHeartbeats 400000 in
theorem MonitorSilent_far (s : Int) (A : Option Addr) (len c : Nat) (w : World) (hm : len ≤ 9223372036854775807) (h : s < 1 ∨ (1 ≤ s ∧ 1000 < s) ∨ (1 ≤ s ∧ s ≤ 1000 ∧ 50 < len)) :
    Calls Try.prog 6 #[.int .i64 s, .slice A len c] w fun e w' => e = .returned (.bool true) ∧ Below w.heap.size w w' := by
  rcases h with h | ⟨h, h'⟩ | ⟨h, h', h''⟩
  all_goals
    go_enter Try.func6, Try.ntmps6
    go_wp2_with fail
    refine (alive_calls w).mono ?_
    rintro e w' ⟨rfl, hb⟩
    go_wp2
    go_ret
    exact ⟨rfl, hb⟩
/-- n steps of silence: whether the line failed -/
structure Sil (m : Mo) (s n : Int) : Prop where
  silent : m.silent = s
  quiet : m.quiet = n
  fails : m.st = 2 ↔ s ≤ n
theorem Sil.start (s : Int) (h : 1 ≤ s ∧ s ≤ 1000) : Sil ((mnew 3 2 s).note true) s 0 := by
  obtain ⟨_, _, _, h3, h4⟩ := Mo.note_run (mnew 3 2 s) true
  refine ⟨h3.trans (by show min (max s 1) 1073741824 = s; omega), h4, ?_⟩
  have : ((mnew 3 2 s).note true).st = 0 := rfl
  rw [this]
  omega
theorem Sil.step {m : Mo} {s n : Int} (h : Sil m s n) (k : Int) (hk : 0 ≤ k ∧ k ≤ 63) (hn : 0 ≤ n ∧ n ≤ 4000) : Sil (m.pass k) s (n + k) := by
  have e : min (m.quiet + min (max k 0) 1073741824) 1073741824 = n + k := by rw [h.quiet]; omega
  unfold Mo.pass
  rw [e, h.silent]
  have hf := h.fails
  split
  · rename_i g
    exact ⟨rfl, rfl, by simp [g]⟩
  · rename_i g
    refine ⟨rfl, rfl, ?_⟩
    show m.st = 2 ↔ _
    omega
/-- k of the parts passed -/
def SRel (w : World) (b : Nat) (l : List Int) (s : Int) (n i : Value) (v : World) : Prop := ∃ (k : Nat) (t : Int) (m : Mo), k ≤ l.length ∧ i = .int .i64 k ∧ n = .int .i64 t ∧ 0 ≤ t ∧ t ≤ 63 * k ∧ Sil m s t ∧ One w v b m
set_option maxHeartbeats 400000 in
theorem MonitorSilent_near (s : Int) (A : Option Addr) (c : Nat) (l : List Int) (w : World) (hs : 1 ≤ s ∧ s ≤ 1000) (hr : RdI w A l) (hl : l.length ≤ 50) :
    Calls Try.prog 6 #[.int .i64 s, .slice A l.length c] w fun e w' => e = .returned (.bool true) ∧ Below w.heap.size w w' := by
  go_enter Try.func6, Try.ntmps6
  go_wp2_with fail
  refine (alive_calls w).mono ?_
  rintro e W ⟨rfl, hb⟩
  have HB := Lib.hid hb
  clear hb
  go_wp2_with fail
  refine (one_new 3 2 s W).mono ?_
  rintro e V1 ⟨b, rfl, one⟩
  have cn := (one.later HB.out).note true (fun _ => by show (0 : Int) < _; omega)
  clear one
  go_wp2_with fail
  refine cn.mono ?_
  rintro e V2 ⟨rfl, one⟩
  have ONE := Lib.hid one
  clear one cn
  go_wp2
  go_loopw [7, 8] (SRel w b l s) (fun _ i _ => l.length - (intOf i).toNat)
  case atStart => exact ⟨0, 0, _, Nat.zero_le _, rfl, rfl, Int.le_refl _, by simp, Sil.start s hs, ONE.out⟩
  case round =>
    clear ONE HB
    obtain ⟨k, t, m, hk, rfl, rfl, ht0, ht1, sil, one⟩ := hrel
    by_cases hlt : k < l.length
    · obtain ⟨g, off, rfl, hbb, hc⟩ := (hr.below one.bel).at_ hlt
      generalize l.getD k 0 = x at hc
      have hy := and63_range x
      obtain ⟨y, ha⟩ : ∃ y, bits .and .i64 x 63 = y := ⟨_, rfl⟩
      rw [ha] at hy
      have cp := one.pass y
      have sil2 := sil.step y hy (by omega)
      have hf := sil2.fails
      have SIL := Lib.hid sil2
      clear one sil sil2
      have hq : 0 ≤ t + y ∧ t + y ≤ 63 * (k + 1) := by omega
      generalize m.pass y = m2 at *
      by_cases hfs : s ≤ t + y
      · rw [hf.2 hfs] at cp
        clear hf
        go_wp2_with fail
        refine cp.mono ?_
        rintro e v1 ⟨rfl, one⟩
        have ONE := Lib.hid one
        clear one cp
        go_wp2
        go_roundw
        case rel => exact ⟨k + 1, t + y, m2, by omega, by go_num, by go_num, by omega, by omega, SIL.out, ONE.out⟩
        case measure => simp [intOf]; omega
      · have hst : (m2.st == 2) = false := by simpa using fun e => hfs (hf.1 e)
        have hd : decide (s ≤ t + y) = false := decide_eq_false hfs
        clear hf
        go_wp2_with fail
        refine cp.mono ?_
        rintro e v1 ⟨rfl, one⟩
        have ONE := Lib.hid one
        clear one cp
        go_wp2
        go_roundw
        case rel => exact ⟨k + 1, t + y, m2, by omega, by go_num, by go_num, by omega, by omega, SIL.out, ONE.out⟩
        case measure => simp [intOf]; omega
    · have FIN := Lib.hid one.bel
      clear one sil
      go_wp2
      go_ret
      exact ⟨rfl, FIN.out⟩
theorem MonitorSilent_walk (s : Int) (A : Option Addr) (len cap : Nat) (zs : List Int) (w : World) (hn : (Lit.int .i64 s).wf = true)
    (h : (A = none ∧ len = 0 ∧ cap = 0 ∧ zs = []) ∨ ∃ x, A = some x ∧ len ≤ cap ∧ cap ≤ maxLen ∧ zs.length = cap ∧ (∀ i, i < zs.length → w.cell? (x.add i) = some (.int .i64 (zs.getD i 0))) ∧ ∀ n ∈ zs, (Lit.int .i64 n).wf = true) :
    Calls Try.prog 6 #[.int .i64 s, .slice A len cap] w fun e w' => e = .returned (.bool true) ∧ Below w.heap.size w w' := by
  obtain ⟨l, rfl, h1, h2, hr⟩ := RdI.of_row h
  by_cases hl : s < 1 ∨ (1 ≤ s ∧ 1000 < s) ∨ (1 ≤ s ∧ s ≤ 1000 ∧ 50 < l.length)
  · exact MonitorSilent_far s A l.length cap w (by unfold maxLen at h2; omega) hl
  · exact MonitorSilent_near s A cap l w (by omega) hr (by omega)
end Go.Proofs.Ytnjmnklkbldmgaa

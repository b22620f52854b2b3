/- The library's stable sort of at most 32 elements: it sorts by rank. Condition: the row is in the order of its ids. -/
import Derived.Test.YtfikllghajhigaaSrtMerge
namespace Go.Proofs.Ytfikllghajhigaa
open Go.Proofs Go.Shelf Go.RowKit Go.Lib Go.Sort
set_option linter.unusedVariables false
variable {α : Type} [Inhabited α]

theorem symMerge_calls (enc : α → Value) (cf : α → α → Int) (id r : α → Nat) (K : Rnk cf id r) (g : Nat) (cb : Array Value) (blk off cap : Nat) (d0 : Array α) (w0 : World)
    (eg : ∀ args w, (callFunc g args).run Try.prog w = .ok (.enter g args) w) (hcmp : CmpLays1 Try.prog g cb enc cf blk off d0.size w0) (R : Row1 enc w0 blk off d0) (hsz : d0.size ≤ 1000) :
    ∀ N, MergeUpTo N enc cf id r g cb blk off cap d0 w0 := by
  intro N
  induction N with
  | zero => intro a m b d w h1 h2 h3; omega
  | succ N ih =>
    intro a m b d w h1 h2 h3 h4 h5 S S1 S2 C
    by_cases e1 : a + 1 = m
    · exact symMerge_first enc cf id r K g cb blk off cap a m b d0 d w0 w eg hcmp R h5 S e1 h3 h4 (by omega) S2 C
    · by_cases e2 : m + 1 = b
      · exact symMerge_second enc cf id r K g cb blk off cap a m b d0 d w0 w eg hcmp R h5 S (by omega) e2 h4 (by omega) S1 C
      · exact symMerge_main enc cf id r K g cb blk off cap a m b N d0 d w0 w eg hcmp R h5 S (by omega) (by omega) h4 (by omega) S1 S2 C h1 ih

set_option maxHeartbeats 16000000 in
set_option maxRecDepth 1000000 in
theorem stable_calls (enc : α → Value) (cf : α → α → Int) (id r : α → Nat) (K : Rnk cf id r) (g : Nat) (cb : Array Value) (blk off cap : Nat) (d : Array α) (w0 w : World)
    (eg : ∀ args w, (callFunc g args).run Try.prog w = .ok (.enter g args) w) (hcmp : CmpLays1 Try.prog g cb enc cf blk off d.size w0) (R : Row1 enc w0 blk off d) (S : SW enc w0 blk off d w) (h32 : d.size ≤ 32) (A : Srt id 0 d.size (ix d)) :
    Calls Try.prog 29 #[.slice (some ⟨blk, off, none⟩) d.size cap, .int .i64 d.size, .func (.func g) #[] cb] w fun e w' => e = .returned (.tuple #[]) ∧ ∃ d', SW enc w0 blk off d' w' ∧ d'.size = d.size ∧ Srt r 0 d.size (ix d') ∧ Same 0 d.size (ix d) (ix d') := by
  have hs : ∀ k, IntKind.i64.wrap ((d.size : Nat) : Int) = ((d.size : Nat) : Int) := fun _ => by rw [IntKind.wrap_i64]; omega
  by_cases h20 : d.size < 20
  · have C1 := insertion_calls enc cf id r K g cb blk off cap 0 d.size d d w0 w eg hcmp R rfl S (Nat.zero_le _) (Nat.le_refl _) (by omega) A
    have z1 : ¬ (20 : Int) ≤ (d.size : Int) := by omega
    have z2 : ¬ (20 : Int) < (d.size : Int) := by omega
    clear hcmp R S A K
    go_enter Try.func29, Try.ntmps29
    go_wp2_with fail
    refine wp_loop_rounds 1 ?_
    rw [rounds_succ]
    go_wp2_with fail
    refine C1.mono ?_
    rintro e w1 ⟨rfl, d1, S1, hd1, T1, M1⟩
    go_wp2_with fail
    refine wp_loop_rounds 1 ?_
    rw [rounds_succ]
    go_wp2
    go_end0
    exact ⟨rfl, d1, S1, hd1, T1, M1⟩
  · have z1 : (20 : Int) ≤ (d.size : Int) := by omega
    have z1b : ¬ (40 : Int) ≤ (d.size : Int) := by omega
    have C1 := insertion_calls enc cf id r K g cb blk off cap 0 20 d d w0 w eg hcmp R rfl S (Nat.zero_le _) (by omega) (by omega) (fun i j h1 h2 h3 => A i j h1 h2 (by omega))
    have C2 : ∀ d1 w1, SW enc w0 blk off d1 w1 → d1.size = d.size → Same 0 20 (ix d) (ix d1) → Calls Try.prog 31 #[.slice (some ⟨blk, off, none⟩) d.size cap, .int .i64 ((20 : Nat) : Int), .int .i64 d.size, .func (.func g) #[] cb] w1 fun e w' => e = .returned (.tuple #[]) ∧ ∃ d', SW enc w0 blk off d' w' ∧ d'.size = d.size ∧ Srt r 20 d.size (ix d') ∧ Same 20 d.size (ix d1) (ix d') := fun d1 w1 h1 h2 h3 => by
      have := insertion_calls enc cf id r K g cb blk off cap 20 d.size d d1 w0 w1 eg hcmp R (by omega) h1 (by omega) (by omega) (by omega) (fun i j h4 h5 h6 => by
        rw [h3.out i (by omega), h3.out j (by omega)]
        exact A i j (by omega) h5 h6)
      rw [h2] at this
      exact this
    have C3 : ∀ d1 d2 w2, SW enc w0 blk off d2 w2 → d2.size = d.size → 20 < d.size → Srt r 0 20 (ix d1) → Same 0 20 (ix d) (ix d1) → Srt r 20 d.size (ix d2) → Same 20 d.size (ix d1) (ix d2) → Calls Try.prog 32 #[.slice (some ⟨blk, off, none⟩) d.size cap, .int .i64 ((0 : Nat) : Int), .int .i64 ((20 : Nat) : Int), .int .i64 d.size, .func (.func g) #[] cb] w2 fun e w' => e = .returned (.tuple #[]) ∧ ∃ d', SW enc w0 blk off d' w' ∧ d'.size = d.size ∧ Srt r 0 d.size (ix d') ∧ Same 0 d.size (ix d) (ix d') := fun d1 d2 w2 h1 h2 h3 T1 M1 T2 M2 => by
      have C : Crs id 0 20 d.size (ix d) := fun i j h4 h5 h6 h7 => A i j h4 (by omega) h7
      have := symMerge_calls enc cf id r K g cb blk off cap d w0 eg hcmp R (by omega) d.size 0 20 d.size d2 w2 (by omega) (by omega) h3 (by omega) (by omega) h1 (T1.same fun k h4 h5 => M2.out k (by omega)) T2 (C.same M1 M2)
      rw [h2] at this
      refine this.mono ?_
      rintro e w' ⟨he, d', hS, hd, T3, M3⟩
      exact ⟨he, d', hS, hd, T3, (M1.mono (Nat.le_refl _) (by omega)).trans ((M2.mono (Nat.zero_le _) (Nat.le_refl _)).trans M3)⟩
    clear hcmp R S A K
    by_cases h20' : d.size = 20
    · have z2 : ¬ (20 : Int) < (d.size : Int) := by omega
      have H20 : Aside (d.size = 20) := h20'
      clear h20'
      go_enter Try.func29, Try.ntmps29
      go_wp2_with fail
      refine wp_loop_rounds 2 ?_
      rw [rounds_succ]
      go_wp2_with fail
      refine C1.mono ?_
      rintro e w1 ⟨rfl, d1, S1, hd1, T1, M1⟩
      go_wp2_with fail
      rw [rounds_succ]
      go_wp2_with fail
      refine (C2 d1 w1 S1 hd1 M1).mono ?_
      rintro e w2 ⟨rfl, d2, S2, hd2, T2, M2⟩
      go_wp2_with fail
      refine wp_loop_rounds 1 ?_
      rw [rounds_succ]
      go_wp2
      go_end0
      refine ⟨rfl, d2, S2, hd2, ?_, ?_⟩
      · rw [H20.out]
        exact T1.same fun k h4 h5 => M2.out k (by omega)
      · exact (M1.mono (Nat.le_refl _) (by have := H20.out; omega)).trans (M2.mono (Nat.zero_le _) (Nat.le_refl _))
    · have z2 : (20 : Int) < (d.size : Int) := by omega
      have z3 : ¬ (40 : Int) < (d.size : Int) := by omega
      go_enter Try.func29, Try.ntmps29
      go_wp2_with fail
      refine wp_loop_rounds 2 ?_
      rw [rounds_succ]
      go_wp2_with fail
      refine C1.mono ?_
      rintro e w1 ⟨rfl, d1, S1, hd1, T1, M1⟩
      go_wp2_with fail
      rw [rounds_succ]
      go_wp2_with fail
      refine (C2 d1 w1 S1 hd1 M1).mono ?_
      rintro e w2 ⟨rfl, d2, S2, hd2, T2, M2⟩
      have C4 := C3 d1 d2 w2 S2 hd2 (by omega) T1 M1 T2 M2
      clear C1 C2 C3 S1 S2 T1 T2 M1 M2 hd1 hd2
      go_wp2_with fail
      refine wp_loop_rounds 2 ?_
      rw [rounds_succ]
      go_wp2_with fail
      refine wp_loop_rounds 1 ?_
      rw [rounds_succ]
      go_wp2_with fail
      refine C4.mono ?_
      rintro e w3 ⟨rfl, d3, S3, hd3, T3, M3⟩
      go_wp2_with fail
      rw [rounds_succ]
      go_wp2
      go_end0
      exact ⟨rfl, d3, S3, hd3, T3, M3⟩

theorem sortStable_calls (enc : α → Value) (cf : α → α → Int) (id r : α → Nat) (K : Rnk cf id r) (g : Nat) (cb : Array Value) (blk off cap : Nat) (d : Array α) (w0 : World)
    (eg : ∀ args w, (callFunc g args).run Try.prog w = .ok (.enter g args) w) (hcmp : CmpLays1 Try.prog g cb enc cf blk off d.size w0) (R : Row1 enc w0 blk off d) (h32 : d.size ≤ 32) (A : Srt id 0 d.size (ix d)) :
    Calls Try.prog 26 #[.slice (some ⟨blk, off, none⟩) d.size cap, .func (.func g) #[] cb] w0 fun e w' => e = .returned (.tuple #[]) ∧ ∃ d', SW enc w0 blk off d' w' ∧ d'.size = d.size ∧ Srt r 0 d.size (ix d') ∧ Same 0 d.size (ix d) (ix d') := by
  have C := stable_calls enc cf id r K g cb blk off cap d w0 w0 eg hcmp R (SW.start R.hH) h32 A
  clear hcmp R A K
  go_enter Try.func26, Try.ntmps26
  go_wp2_with fail
  refine C.mono ?_
  rintro e w3 ⟨rfl, d3, S3, hd3, T3, M3⟩
  go_wp2
  go_end0
  exact ⟨rfl, d3, S3, hd3, T3, M3⟩
end Go.Proofs.Ytfikllghajhigaa

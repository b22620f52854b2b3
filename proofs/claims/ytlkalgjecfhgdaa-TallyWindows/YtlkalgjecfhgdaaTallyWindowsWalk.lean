/- The law TallyWindows, walked. Condition: the slice reads as its ints. -/
import Derived.Test.YtlkalgjecfhgdaaTalState
namespace Go.Proofs.Ytlkalgjecfhgdaa
open Go.RowKit
set_option linter.unusedVariables false

theorem TallyWindows_far (n : Int) (A : Option Addr) (len c : Nat) (w : World) (hl : 200 < len) (hm : len ≤ 9223372036854775807) :
    Calls Try.prog 3 #[.int .i64 n, .slice A len c] w fun e w' => e = .returned (.bool true) ∧ Below w.heap.size w w' := by
  go_enter Try.func3, Try.ntmps3
  go_wp2_with fail
  refine (alive_calls w).mono ?_
  rintro e w' ⟨rfl, hb⟩
  go_wp2
  go_ret
  exact ⟨rfl, hb⟩
/-- k of the ints gone through -/
def WRel (w : World) (l : List Int) (p N : Nat) (i : Value) (v : World) : Prop := ∃ (k : Nat) (L : List Bool), k ≤ l.length ∧ i = .int .i64 k ∧ St w v p N L L
set_option maxHeartbeats 1000000 in
theorem TallyWindows_near (n : Int) (A : Option Addr) (c : Nat) (l : List Int) (w : World) (hr : RdI w A l) (hl : l.length ≤ 200) :
    Calls Try.prog 3 #[.int .i64 n, .slice A l.length c] w fun e w' => e = .returned (.bool true) ∧ Below w.heap.size w w' := by
  go_enter Try.func3, Try.ntmps3
  go_wp2_with fail
  refine (alive_calls w).mono ?_
  rintro e W ⟨rfl, hb⟩
  have hN := siz_le n
  obtain ⟨N, hNe⟩ : ∃ N, siz n = N := ⟨_, rfl⟩
  obtain ⟨p, hp⟩ : ∃ p, p = W.heap.size := ⟨_, rfl⟩
  have n1 := new_calls n W
  obtain ⟨W1, hW1⟩ : ∃ V, W.alloc (.cells (zcells (N : Int)) 44) = V := ⟨_, rfl⟩
  obtain ⟨W2, hW2⟩ : ∃ V, W1.alloc (.cells (zcells ((2 : Nat) : Int)) 44) = V := ⟨_, rfl⟩
  obtain ⟨W3, hW3⟩ : ∃ V, W2.alloc (.cells (vcells N none 0 0) 47) = V := ⟨_, rfl⟩
  have s1 : W1.heap.size = p + 1 := by rw [← hW1, hp]; simp
  have s2 : W2.heap.size = p + 2 := by rw [← hW2]; simp [s1]
  have n2 : Calls Try.prog 7 #[.int .i64 2] W1 fun e w' => e = .returned (.pointer (some ⟨p + 1, 0, none⟩)) ∧ W2 = w' := by
    have := new_calls 2 W1
    rw [show siz 2 = 2 from rfl, hW2, s1] at this
    exact this
  have n3 := newWindow_calls n W2
  rw [hNe, hW1, ← hp] at n1
  rw [hNe, hW3, s2] at n3
  have st : St w W3 p N [] [] := by
    have := St.start hb hp (N := N) (by rw [← hNe]; exact hN)
    rw [hW1, hW2, hW3] at this
    exact this
  have ST := Lib.hid st
  clear hp hW1 hW2 hW3 s1 s2 st hNe hN hb
  go_wp2_with fail
  refine n1.mono ?_
  rintro e w' ⟨rfl, rfl⟩
  clear n1
  go_wp2_with fail
  refine n2.mono ?_
  rintro e w' ⟨rfl, rfl⟩
  clear n2
  go_wp2_with fail
  refine n3.mono ?_
  rintro e w' ⟨rfl, rfl⟩
  clear n3
  go_wp2
  go_loopw [9] (WRel w l p N) (fun i _ => l.length - (intOf i).toNat)
  case atStart => exact ⟨0, [], Nat.zero_le _, rfl, ST.out⟩
  case round =>
    clear ST
    obtain ⟨k, L, hk, rfl, st⟩ := hrel
    by_cases hlt : k < l.length
    · obtain ⟨b, off, rfl, hbb, hc⟩ := (hr.below st.bel).at_ hlt
      have HC := Lib.hid (show ∀ v, Below w.heap.size w v → v.cell? ⟨b, off + k, none⟩ = some (.int .i64 (l.getD k 0)) from fun v hv => by
        obtain ⟨b', off', hA, _, hc'⟩ := (hr.below hv).at_ hlt
        injection hA with hA
        injection hA with h1 h2
        subst h1 h2
        exact hc')
      clear hc
      generalize l.getD k 0 = x at HC
      have no := st.noteO false
      clear st
      go_wp2_with fail
      refine no.mono ?_
      rintro e v1 ⟨rfl, st⟩
      clear no
      have hc := HC.out v1 st.bel
      by_cases h7 : (bits .and .i64 x 15 == 7) = true
      · have cw := st.clearW
        clear st
        go_wp2_with fail
        refine cw.mono ?_
        rintro e v2 ⟨rfl, st⟩
        clear cw hc
        have cr := st.clearR
        clear st
        go_wp2_with fail
        refine cr.mono ?_
        rintro e v3 ⟨rfl, st⟩
        clear cr
        have r1 := gl_range []
        have r2 := bl_range []
        have r3 := st.short
        have r4 := st.size
        have e1 := ord_eq (a := gl []) (by omega)
        have e2 := ord_eq (a := bl []) (by omega)
        have sw := st.sumW
        have sr := st.sumR
        have ST := Lib.hid st
        clear st r1 r2 r3 r4
        generalize gl [] = u at *
        generalize bl [] = t at *
        unfold cx at sw sr
        go_wp2_with fail
        refine sw.mono ?_
        rintro e w' ⟨rfl, rfl⟩
        clear sw
        go_wp2_with fail
        refine sr.mono ?_
        rintro e w' ⟨rfl, m, rfl⟩
        clear sr
        go_wp2
        go_roundw
        case rel => exact ⟨k + 1, [], by omega, by go_num, ST.out.drewN m⟩
        case measure => simp [intOf]; omega
      · have h7' : (bits .and .i64 x 15 == 7) = false := by simpa using h7
        clear h7
        obtain ⟨ok, hok⟩ : ∃ ok, (bits .and .i64 x 1 == 0) = ok := ⟨_, rfl⟩
        have cw := st.noteW ok
        clear st
        go_wp2_with fail
        refine cw.mono ?_
        rintro e v2 ⟨rfl, st⟩
        clear cw hc
        have hc := HC.out v2 st.bel
        have cr := st.noteR ok
        clear st
        go_wp2_with fail
        refine cr.mono ?_
        rintro e v3 ⟨rfl, st⟩
        clear cr hc
        have r1 := gl_range (nx N L ok)
        have r2 := bl_range (nx N L ok)
        have r3 := st.short
        have r4 := st.size
        have e1 := ord_eq (a := gl (nx N L ok)) (by omega)
        have e2 := ord_eq (a := bl (nx N L ok)) (by omega)
        have sw := st.sumW
        have sr := st.sumR
        have ST := Lib.hid st
        clear st r1 r2 r3 r4
        generalize gl (nx N L ok) = u at *
        generalize bl (nx N L ok) = t at *
        unfold cx at sw sr
        go_wp2_with fail
        refine sw.mono ?_
        rintro e w' ⟨rfl, rfl⟩
        clear sw
        go_wp2_with fail
        refine sr.mono ?_
        rintro e w' ⟨rfl, m, rfl⟩
        clear sr
        go_wp2
        go_roundw
        case rel => exact ⟨k + 1, (nx N L ok), by omega, by go_num, ST.out.drewN m⟩
        case measure => simp [intOf]; omega
    · have FIN := Lib.hid st.bel
      clear st
      go_wp2
      go_ret
      exact ⟨rfl, FIN.out⟩
theorem TallyWindows_walk (n : Int) (A : Option Addr) (len cap : Nat) (zs : List Int) (w : World) (hn : (Lit.int .i64 n).wf = true)
    (h : (A = none ∧ len = 0 ∧ cap = 0 ∧ zs = []) ∨ ∃ x, A = some x ∧ len ≤ cap ∧ cap ≤ maxLen ∧ zs.length = cap ∧ (∀ i, i < zs.length → w.cell? (x.add i) = some (.int .i64 (zs.getD i 0))) ∧ ∀ n ∈ zs, (Lit.int .i64 n).wf = true) :
    Calls Try.prog 3 #[.int .i64 n, .slice A len cap] w fun e w' => e = .returned (.bool true) ∧ Below w.heap.size w w' := by
  obtain ⟨l, rfl, h1, h2, hr⟩ := RdI.of_row h
  by_cases hl : l.length ≤ 200
  · exact TallyWindows_near n A cap l w hr hl
  · exact TallyWindows_far n A l.length cap w (by omega) (by unfold maxLen at h2; omega)
end Go.Proofs.Ytlkalgjecfhgdaa

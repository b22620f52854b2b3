/- Note of a window of the reference. Condition: it keeps at most 1000 events. -/
import Derived.Test.YtnjmnklkbldmgaaTalRefSum
namespace Go.Proofs.Ytnjmnklkbldmgaa
open Go.RowKit
set_option linter.unusedVariables false

theorem infoB : (Try.prog.info? 4).map (fun i => (i.zero, i.size, i.bytes)) = some (some (.bool false), 1, 1) := by kernel_rfl
/-- the slice owns the bools l, in a block from base on -/
def BOwn (w : World) (base : Nat) (A : Option Addr) (c : Nat) (l : List Bool) : Prop := w.ownsRow base 4 1 (.slice A l.length c) l.length (l.map Value.bool)
theorem BOwn.parts {w : World} {base : Nat} {A : Option Addr} {c : Nat} {l : List Bool} (h : BOwn w base A c l) (hl : l ≠ []) :
    ∃ g, A = some ⟨g, 0, none⟩ ∧ base ≤ g ∧ l.length ≤ c ∧ c ≤ maxLen ∧ RdB w A l := by
  have hp := List.length_pos_iff.2 hl
  have h' := h
  rcases h.2 with ⟨_, h0⟩ | ⟨g, cap, cur, hv, hb, hh, hn, hm, _⟩
  · omega
  injection hv with hA _ hc
  subst hA hc
  refine ⟨g, rfl, hb, hn, hm, fun _ => ⟨g, 0, rfl, fun j hj => ?_⟩⟩
  rw [Nat.zero_add, World.ownsRow.cellAt h' j (by omega)]
  simp [List.getElem?_eq_getElem hj]
theorem rnote_mem {w : World} {A : Option Addr} {c : Nat} {l : List Bool} (hr : RdB w A l) (he : l = [] → A = none ∧ c = 0) (hlen : l.length ≤ 1000) (ok : Bool) :
    ∃ B d w1, (∀ ty, (Builtin.append_ #[35, 35] ty #[.slice none 0 0, .slice A l.length c]).run Try.prog w = .ok (.slice B l.length d) w1) ∧
      ∃ g d' w2, (∀ ty, (Builtin.append_ #[35, 35] ty #[.slice B l.length d, .slice (some ⟨w1.heap.size, 0, none⟩) 1 1]).run Try.prog (w1.alloc (.cells #[.bool ok] 4)) = .ok (.slice (some ⟨g, 0, none⟩) (l.length + 1) d') w2) ∧
        RdB w2 (some ⟨g, 0, none⟩) (l ++ [ok]) ∧ w.heap.size ≤ g ∧ l.length + 1 ≤ d' ∧ d' ≤ maxLen ∧ Only (fun _ => False) w w2 := by
  obtain ⟨i0, hi, hz0, hz1, hz2⟩ := info_parts infoB
  obtain ⟨B, d, w1, run1, own1, on1⟩ : ∃ B d w1, (∀ ty, (Builtin.append_ #[35, 35] ty #[.slice none 0 0, .slice A l.length c]).run Try.prog w = .ok (.slice B l.length d) w1) ∧ BOwn w1 w.heap.size B d l ∧ Only (fun _ => False) w w1 := by
    by_cases hl : l = []
    · obtain ⟨rfl, rfl⟩ := he hl
      subst hl
      exact ⟨none, 0, w, fun ty => run_append_owned_none (P := Try.prog) w 0 _ _ _ _ 1 Try.underlying35 hi _ 0 [] (World.ownsRow_nil _ _ _ _), World.ownsRow_nil _ _ _ _, Only.refl _ _⟩
    · obtain ⟨b, off, rfl, hc⟩ := hr hl
      have hp := List.length_pos_iff.2 hl
      obtain ⟨A', d, w', r, o, on, kin⟩ := app_kin w w.heap.size 35 4 i0 _ 1 Try.underlying35 hi hz0 hz1 hz2 rfl none 0 0 [] (World.ownsRow_nil _ _ _ _) ⟨b, off, none⟩ l.length c (l.map Value.bool) (by simp)
        (fun j u hu => by
          have hj : j < l.length := by
            rcases Nat.lt_or_ge j l.length with h | h
            · exact h
            · rw [List.getElem?_eq_none (by simpa using h)] at hu; cases hu
          rw [Go.WideShapes.add_plain, hc j hj]
          simp [List.getElem?_eq_getElem hj] at hu
          simp [hj, hu])
        (fun u hu => by obtain ⟨x, _, rfl⟩ := List.mem_map.mp hu; rfl) (by unfold maxLen; omega) (by omega) (Nat.le_refl _) hp
      refine ⟨A', d, w', fun ty => by rw [r ty]; simp, ?_, on.mono (fun i _ hi => by cases hi)⟩
      unfold BOwn
      simpa using o
  refine ⟨B, d, w1, run1, ?_⟩
  obtain ⟨B', d', w2, r, o, on, kin⟩ := app_kin (w1.alloc (.cells #[.bool ok] 4)) w.heap.size 35 4 i0 _ 1 Try.underlying35 hi hz0 hz1 hz2 rfl B d l.length (l.map Value.bool) (World.ownsRow.alloc own1 _) ⟨w1.heap.size, 0, none⟩ 1 1 [.bool ok] rfl
    (fun j u hu => by
      rw [Go.WideShapes.add_plain, Nat.zero_add, cell_of_row _ _ j _ _ (0, 0) (heap_alloc_new w1 _)]
      simpa using hu)
    (fun u hu => by simp at hu; subst hu; rfl) (by unfold maxLen; omega) (by omega) (by have := on1.size; simp; omega) (by decide)
  have o' : BOwn w2 w.heap.size B' d' (l ++ [ok]) := by
    unfold BOwn
    simpa using o
  obtain ⟨g, rfl, hg, hd, hm, rd⟩ := o'.parts (by simp)
  refine ⟨g, d', w2, r, rd, hg, by simpa using hd, hm, ?_⟩
  have hs := on1.size
  refine ((on1.alloc _).mono (G := fun _ => False) (fun i _ h => h)).trans on (fun i hi h => ?_)
  -- the row that the second append may write lies behind what was there
  by_cases hl : l = []
  · subst hl
    rcases own1.2 with ⟨hv, _⟩ | ⟨g', cap, cur, hv, hb, _⟩
    · injection hv with hA
      subst hA
      cases h
    · injection hv with hA
      subst hA
      injection h with h
      have h' : g' = i := h
      omega
  · obtain ⟨g', rfl, hb, _⟩ := own1.parts hl
    injection h with h
    have h' : g' = i := h
    omega

/-- the events that are kept after one more -/
def nx (n : Nat) (l : List Bool) (ok : Bool) : List Bool := if n < l.length + 1 then (l ++ [ok]).drop 1 else l ++ [ok]
set_option maxHeartbeats 1000000 in
theorem refNote_calls {w : World} {base b n : Nat} {l : List Bool} (h : RW w base b n l) (hn : 1 ≤ n ∧ n ≤ 1000) (hbase : base ≤ w.heap.size) (ok : Bool) :
    Calls Try.prog 27 #[.pointer (some ⟨b, 0, none⟩), .bool ok] w fun e w' => e = .returned (.tuple #[]) ∧ RW w' base b n (nx n l ok) ∧ Only (fun k => k = b) w w' := by
  have hbs := h.lt
  obtain ⟨A, c, h1, h2, h3, h4, h5, h6⟩ := h
  obtain ⟨B, d, w1, run1, g, d', w2, run2, rd, hg, hd, hdm, on⟩ := rnote_mem h2 h3 (by omega) ok
  obtain ⟨_, c1⟩ := vcell h1
  have hb2 : w2.heap[b]? = some (.cells (vcells n A l.length c) 59 (0, 0)) := (on.block b hbs (fun h => h)).trans h1
  have hb3 := vset hb2 (some ⟨g, 0, none⟩) (l.length + 1) d'
  obtain ⟨_, k1⟩ := vcell hb2
  have z2 := frozen_of_row w2 b 1 _ _ hb2
  have on2 : Only (fun k => k = b) w w2 := on.mono (fun _ _ h => h.elim)
  have on3 := only_put on2 1 (.slice (some ⟨g, 0, none⟩) (l.length + 1) d')
  have rd3 : RdB (w2.setCell ⟨b, 1, none⟩ (.slice (some ⟨g, 0, none⟩) (l.length + 1) d')) (some ⟨g, 0, none⟩) (l ++ [ok]) :=
    rd.only (only_put (Only.refl (fun k => k = b) w2) 1 _) (fun k hk e => by injection hk with hk; have hk' : g = k := hk; omega)
  obtain ⟨t0, t1⟩ := vcell hb3
  have z3 := frozen_of_row _ b 1 _ _ hb3
  have hgb : ∀ (off : Nat) k, blk (some (⟨g, off, none⟩ : Addr)) = some k → base ≤ k := fun off k hk => by injection hk with hk; have hk' : g = k := hk; omega
  have hm1 : (1 : Int) ≤ (l.length : Int) + 1 := by omega
  have hm2 : (1 : Int) ≤ (d' : Int) := by omega
  have hdm' : d' ≤ 9223372036854775807 := by unfold maxLen at hdm; omega
  by_cases hlen : n < l.length + 1
  · have hln : l.length = n := by omega
    have FIN := Lib.hid (show ∀ m, RW (((w2.setCell ⟨b, 1, none⟩ (.slice (some ⟨g, 0, none⟩) (l.length + 1) d')).drewN m).setCell ⟨b, 1, none⟩ (.slice (some ⟨g, 1, none⟩) l.length (d' - 1))) base b n (nx n l ok) ∧
        Only (fun k => k = b) w (((w2.setCell ⟨b, 1, none⟩ (.slice (some ⟨g, 0, none⟩) (l.length + 1) d')).drewN m).setCell ⟨b, 1, none⟩ (.slice (some ⟨g, 1, none⟩) l.length (d' - 1))) from by
      intro m
      refine ⟨?_, only_put (on3.drewN m) _ _⟩
      unfold nx
      rw [if_pos hlen]
      have hl1 : ((l ++ [ok]).drop 1).length = l.length := by simp
      refine ⟨some ⟨g, 1, none⟩, d' - 1, ?_, ?_, fun e => ?_, by rw [hl1]; omega, h5, hgb 1⟩
      · rw [hl1]
        exact vset (show ((w2.setCell ⟨b, 1, none⟩ (.slice (some ⟨g, 0, none⟩) (l.length + 1) d')).drewN m).heap[b]? = _ from hb3) (some ⟨g, 1, none⟩) l.length (d' - 1)
      · have r1 : RdB (w2.setCell ⟨b, 1, none⟩ (.slice (some ⟨g, 0, none⟩) (l.length + 1) d')) (some ⟨g, 1, none⟩) ((l ++ [ok]).drop 1) := fun _ => by
          obtain ⟨b', off, e, hc⟩ := rd3 (by simp)
          injection e with e
          injection e with e1 e2
          subst e1 e2
          refine ⟨g, 1, rfl, fun j hj => ?_⟩
          have := hc (1 + j) (by rw [hl1] at hj; simp; omega)
          rw [Nat.zero_add] at this
          rw [this]
          simp [Nat.add_comm 1 j]
        exact RdB.only (w := (w2.setCell ⟨b, 1, none⟩ (.slice (some ⟨g, 0, none⟩) (l.length + 1) d')).drewN m) r1 (only_put (Only.refl (fun k => k = b) _) 1 _) (fun k hk e => by injection hk with hk; have hk' : g = k := hk; omega)
      · exfalso
        have : l.length = 0 := by rw [← hl1, e]; rfl
        omega)
    have hq : (n : Int) < (l.length : Int) + 1 := by omega
    have hd1 : ¬ d' = 1 := by omega
    clear h1 h2 h3 h4 h5 h6 rd rd3 hb2 hb3 on on2 on3 hg hgb hbase hbs hlen hln hn hd hdm
    generalize l.length = m at *
    go_enter Try.func27, Try.ntmps27
    go_wp2_with (at_builtin; first | refine Lib.wpList_append_run (o := ⟨some 9, _, _, _, _, _⟩) _ rfl _ _ _ _ rfl _ _ rfl rfl _ _ (run1 _) ?_ | refine Lib.wpList_append_run (o := ⟨some 12, _, _, _, _, _⟩) _ rfl _ _ _ _ rfl _ _ rfl rfl _ _ (run2 _) ?_)
    go_quiet (fail)
    go_wp2
    go_end0
    exact ⟨rfl, FIN.out _⟩
  · have FIN := Lib.hid (show ∀ m, RW ((w2.setCell ⟨b, 1, none⟩ (.slice (some ⟨g, 0, none⟩) (l.length + 1) d')).drewN m) base b n (nx n l ok) ∧ Only (fun k => k = b) w ((w2.setCell ⟨b, 1, none⟩ (.slice (some ⟨g, 0, none⟩) (l.length + 1) d')).drewN m) from by
      intro m
      refine ⟨?_, on3.drewN m⟩
      unfold nx
      rw [if_neg hlen]
      refine ⟨some ⟨g, 0, none⟩, d', ?_, rd3, fun e => by simp at e, by simp; omega, h5, hgb 0⟩
      rw [List.length_append]
      exact hb3)
    have hq : ¬ (n : Int) < (l.length : Int) + 1 := by omega
    clear h1 h2 h3 h4 h5 h6 rd rd3 hb2 hb3 on on2 on3 hg hgb hbase hbs hlen hn hd hdm
    generalize l.length = m at *
    go_enter Try.func27, Try.ntmps27
    go_wp2_with (at_builtin; first | refine Lib.wpList_append_run (o := ⟨some 9, _, _, _, _, _⟩) _ rfl _ _ _ _ rfl _ _ rfl rfl _ _ (run1 _) ?_ | refine Lib.wpList_append_run (o := ⟨some 12, _, _, _, _, _⟩) _ rfl _ _ _ _ rfl _ _ rfl rfl _ _ (run2 _) ?_)
    go_quiet (fail)
    go_wp2
    go_end0
    exact ⟨rfl, FIN.out _⟩
end Go.Proofs.Ytnjmnklkbldmgaa

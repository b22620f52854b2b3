/- Note of a window of the program that lies inside a monitor. No condition. -/
import Derived.Test.YtnjmnklkbldmgaaMonWin
namespace Go.Proofs.Ytnjmnklkbldmgaa
open Go.RowKit
set_option linter.unusedVariables false
attribute [local go_sem] store_complex

/-- what Note does in memory: the sum, the event, the next place -/
theorem xnote_mem {w : World} {b n old : Nat} {o : Ar} {q : List Nat} (h : XW w b o n (old :: q)) (hn : n ≤ 1000) (ok : Bool) :
    ∃ (k : Nat) (ev : List Nat) (m : Nat), ev.length = 1000 ∧ k < n ∧ ev[k]? = some old ∧ old ≤ 2 ∧ (m = if k + 1 < n then k + 1 else 0) ∧ w.heap[b]? = some (.cells (xcells o n ev k (gs (old :: q)) (bs (old :: q))) 50 (0, 0)) ∧
      ∀ w', w'.heap[b]? = some (.cells (xcells o n (ev.set k (code ok)) m (gs (q ++ [code ok])) (bs (q ++ [code ok]))) 50 (0, 0)) → XW w' b o n (q ++ [code ok]) := by
  obtain ⟨A, B, R, h1, h2, h3, h4, h5, h6⟩ := h
  obtain ⟨o', B', rfl⟩ := List.exists_cons_of_ne_nil h2
  have h1' : old :: q = o' :: (B' ++ A) := h1
  injection h1' with e1 e2
  subst e1 e2
  have hlen : (B' ++ A).length + 1 = n := h3
  rw [List.length_append] at hlen
  have hset : (A ++ (old :: B' ++ R)).set A.length (code ok) = A ++ (code ok :: B' ++ R) := by
    rw [List.set_append_right _ _ (Nat.le_refl _), Nat.sub_self]; rfl
  have h5' : ∀ e ∈ B' ++ A ++ [code ok], e ≤ 2 := by
    intro e he
    rcases List.mem_append.1 he with he | he
    · exact h5 e (List.mem_cons_of_mem _ he)
    · rw [List.mem_singleton.1 he]; exact code_le ok
  refine ⟨A.length, A ++ (old :: B' ++ R), _, h4, by omega, by simp, h5 old (by simp), rfl, h6, fun w' hw => ?_⟩
  rw [hset] at hw
  have h4' : A.length + (B'.length + 1 + R.length) = 1000 := by simp at h4; omega
  by_cases hB : B' = []
  · subst hB
    rw [if_neg (by simp at hlen; omega)] at hw
    refine ⟨[], A ++ [code ok], R, by simp, by simp, by simp at hlen ⊢; omega, by simp at h4' ⊢; omega, h5', ?_⟩
    rw [hw]
    congr 3
    simp
  · rw [if_pos (by have := List.length_pos_iff.2 hB; omega)] at hw
    refine ⟨A ++ [code ok], B', R, by simp, hB, by simp; omega, by simp; omega, h5', ?_⟩
    rw [hw]
    congr 3 <;> simp
set_option maxRecDepth 20000 in
set_option maxHeartbeats 1000000 in
theorem xnote_calls {w : World} {b n old : Nat} {o : Ar} {q : List Nat} (h : XW w b o n (old :: q)) (hn : n ≤ 1000) (ok : Bool) :
    Calls Try.prog 24 #[.pointer (some ⟨b, 3, none⟩), .bool ok] w fun e w' => e = .returned (.tuple #[]) ∧ XW w' b o n (q ++ [code ok]) ∧ Only (fun k => k = b) w w' := by
  have hgl := gs_range (old :: q)
  have hbl := bs_range (old :: q)
  have hlen : (old :: q).length = n := h.choose_spec.choose_spec.choose_spec.2.2.1
  obtain ⟨k, ev, m, hl, hk, hev, hold, hm, hb, hfin⟩ := xnote_mem h hn ok
  have e1 : gs (q ++ [code ok]) = gs (old :: q) + (gd (code ok) - gd old) := by rw [gs_app, gs_cons, gs_cons, gs_nil]; omega
  have e2 : bs (q ++ [code ok]) = bs (old :: q) + (bd (code ok) - bd old) := by rw [bs_app, bs_cons, bs_cons, bs_nil]; omega
  have g1 := gd_range (code ok)
  have g2 := gd_range old
  have b1 := bd_range (code ok)
  have b2 := bd_range old
  have hsub := fun t w => run_subc (a := gd (code ok)) (b := bd (code ok)) (c := gd old) (d := bd old) (by omega) (by omega) (by omega) (by omega) t w
  have hadd := fun t w => run_addc' (a := gs (old :: q)) (b := bs (old :: q)) (c := gd (code ok) - gd old) (d := bd (code ok) - bd old) (by omega) (by omega) (by omega) (by omega) t w
  have cc := fun w => event_calls (code ok) (code_le ok) w
  have co := fun w => event_calls old hold w
  rw [e1, e2] at hfin
  unfold cx at cc co
  obtain ⟨c0, c1, c2, c3⟩ := xcell hl hb
  have c3 := c3 k old hev
  have FZ := Lib.hid (show ∀ j, w.frozen? ⟨b, j, none⟩ = false from fun j => frozen_of_row w b j _ _ hb)
  have z2 := FZ.out 1005
  have hk1000 : k < 1000 := by omega
  -- the worlds
  have hb1 := xset_sum hl hb (gs (old :: q) + (gd (code ok) - gd old)) (bs (old :: q) + (bd (code ok) - bd old))
  have hb2 := xset_ev hl hb1 k (code ok) hk1000
  have hl2 : (ev.set k (code ok)).length = 1000 := by simpa using hl
  unfold cx at c2 hb1 hb2
  clear e1 e2 g1 g2 b1 b2 hgl hbl hlen h hold
  generalize gs (old :: q) + (gd (code ok) - gd old) = G3 at *
  generalize bs (old :: q) + (bd (code ok) - bd old) = D3 at *
  generalize fl (gd (code ok) - gd old) = x2 at *
  generalize fl (bd (code ok) - bd old) = y2 at *
  generalize fl (gd (code ok)) = x1 at *
  generalize fl (bd (code ok)) = y1 at *
  generalize fl (gd old) = x0 at *
  generalize fl (bd old) = y0 at *
  generalize fl (gs (old :: q)) = xs at *
  generalize fl (bs (old :: q)) = ys at *
  have HB := Lib.hid (And.intro hb (And.intro hb1 hb2))
  have HF := Lib.hid hfin
  have HX := Lib.hid (And.intro hl (And.intro hev hm))
  clear hb hb1 hb2 hfin hl hev hm
  unfold ew at c3
  have q1 : (0 : Int) ≤ (k : Int) := by omega
  have q2 : (k : Int) < 1000 := by omega
  cases ok
  · have cc : ∀ w, Calls Try.prog 33 #[.int .u8 2] w fun r w' => r = .returned (.complex .f64 x1 y1) ∧ w' = w := cc
    go_enter Try.func24, Try.ntmps24
    go_wp2
    refine wp_region_still_tail 20 (by kernel_rfl) (by kernel_rfl) ?_
    simp only [List.take_succ_cons, List.take_zero, List.drop_succ_cons, List.drop_zero]
    repeat still_step
    still_call (cc _)
    repeat still_step
    still_call (co _)
    repeat still_step
    refine wpStill_nil ?_
    go_wp2
    clear cc co hsub hadd c0 c1 c2 c3 z2 FZ
    generalize hw1 : World.drew (World.setCell _ _ _) = w1
    obtain ⟨hb1, o1⟩ : w1.heap[b]? = some (.cells (xcells o n ev k G3 D3) 50 (0, 0)) ∧ Only (fun k => k = b) w w1 := by
      subst hw1
      exact ⟨HB.out.2.1, (only_put (Only.refl _ w) _ _).drew⟩
    clear hw1
    have c1 := (xcell HX.out.1 hb1).2.1
    have z1 := frozen_of_row w1 b (4 + k) _ _ hb1
    have c3 := (xcell HX.out.1 hb1).2.2.2 k old HX.out.2.1
    unfold ew at c3
    have O1 := Lib.hid (And.intro hb1 o1)
    clear hb1 o1
    refine wp_region_still_tail 9 (by kernel_rfl) (by kernel_rfl) ?_
    simp only [List.take_succ_cons, List.take_zero, List.drop_succ_cons, List.drop_zero]
    repeat still_step
    refine wpStill_nil ?_
    go_upto_region 5 with (fail)
    clear c1 c3 z1
    generalize hw2 : World.drew (World.setCell _ _ _) = w2
    obtain ⟨hb2, o2⟩ : w2.heap[b]? = some (.cells (xcells o n (ev.set k 2) k G3 D3) 50 (0, 0)) ∧ Only (fun k => k = b) w w2 := by
      subst hw2
      exact ⟨xset_ev HX.out.1 O1.out.1 k 2 hk1000, (only_put O1.out.2 _ _).drew⟩
    clear hw2 O1
    have c1 := (xcell hl2 hb2).2.1
    have z1 := frozen_of_row w2 b 1004 _ _ hb2
    have O2 := Lib.hid (And.intro hb2 o2)
    clear hb2 o2
    have q3 : (k : Int) + 1 ≤ 1000 := by omega
    go_wp2
    clear c1 z1
    generalize hw3 : World.setCell _ _ _ = w3
    obtain ⟨hb3, o3⟩ : w3.heap[b]? = some (.cells (xcells o n (ev.set k 2) (k + 1) G3 D3) 50 (0, 0)) ∧ Only (fun k => k = b) w w3 := by
      subst hw3
      exact ⟨xset_next hl2 O2.out.1 (k + 1), only_put O2.out.2 _ _⟩
    clear hw3 O2
    obtain ⟨c0, c1, _⟩ := xcell hl2 hb3
    have z1 := frozen_of_row w3 b 1004 _ _ hb3
    have O3 := Lib.hid (And.intro hb3 o3)
    clear hb3 o3
    by_cases hkn : k + 1 < n
    · have FIN := Lib.hid (show ∀ j, XW (w3.drewN j) b o n (q ++ [2]) ∧ Only (fun k => k = b) w (w3.drewN j) from fun j => ⟨HF.out _ (by rw [HX.out.2.2, if_pos hkn]; exact O3.out.1), O3.out.2.drewN j⟩)
      have q4 : ¬ (n : Int) ≤ ((k + 1 : Nat) : Int) := by omega
      clear O3 HF HX HB hkn hn
      go_quiet (fail)
      go_wp2
      go_end0
      exact ⟨rfl, FIN.out _⟩
    · have FIN := Lib.hid (show ∀ j, XW ((w3.drewN j).setCell ⟨b, 1004, none⟩ (.int .i64 0)) b o n (q ++ [2]) ∧ Only (fun k => k = b) w ((w3.drewN j).setCell ⟨b, 1004, none⟩ (.int .i64 0)) from
        fun j => ⟨HF.out _ (by rw [HX.out.2.2, if_neg hkn]; exact xset_next hl2 (show (w3.drewN j).heap[b]? = _ from O3.out.1) 0), only_put (O3.out.2.drewN j) _ _⟩)
      have q4 : (n : Int) ≤ ((k + 1 : Nat) : Int) := by omega
      clear O3 HF HX HB hkn hn
      go_quiet (fail)
      go_wp2
      go_end0
      exact ⟨rfl, FIN.out _⟩
  · have cc : ∀ w, Calls Try.prog 33 #[.int .u8 1] w fun r w' => r = .returned (.complex .f64 x1 y1) ∧ w' = w := cc
    go_enter Try.func24, Try.ntmps24
    go_wp2
    refine wp_region_still_tail 20 (by kernel_rfl) (by kernel_rfl) ?_
    simp only [List.take_succ_cons, List.take_zero, List.drop_succ_cons, List.drop_zero]
    repeat still_step
    still_call (cc _)
    repeat still_step
    still_call (co _)
    repeat still_step
    refine wpStill_nil ?_
    go_wp2
    clear cc co hsub hadd c0 c1 c2 c3 z2 FZ
    generalize hw1 : World.drew (World.setCell _ _ _) = w1
    obtain ⟨hb1, o1⟩ : w1.heap[b]? = some (.cells (xcells o n ev k G3 D3) 50 (0, 0)) ∧ Only (fun k => k = b) w w1 := by
      subst hw1
      exact ⟨HB.out.2.1, (only_put (Only.refl _ w) _ _).drew⟩
    clear hw1
    have c1 := (xcell HX.out.1 hb1).2.1
    have z1 := frozen_of_row w1 b (4 + k) _ _ hb1
    have c3 := (xcell HX.out.1 hb1).2.2.2 k old HX.out.2.1
    unfold ew at c3
    have O1 := Lib.hid (And.intro hb1 o1)
    clear hb1 o1
    refine wp_region_still_tail 9 (by kernel_rfl) (by kernel_rfl) ?_
    simp only [List.take_succ_cons, List.take_zero, List.drop_succ_cons, List.drop_zero]
    repeat still_step
    refine wpStill_nil ?_
    go_upto_region 5 with (fail)
    clear c1 c3 z1
    generalize hw2 : World.drew (World.setCell _ _ _) = w2
    obtain ⟨hb2, o2⟩ : w2.heap[b]? = some (.cells (xcells o n (ev.set k 1) k G3 D3) 50 (0, 0)) ∧ Only (fun k => k = b) w w2 := by
      subst hw2
      exact ⟨xset_ev HX.out.1 O1.out.1 k 1 hk1000, (only_put O1.out.2 _ _).drew⟩
    clear hw2 O1
    have c1 := (xcell hl2 hb2).2.1
    have z1 := frozen_of_row w2 b 1004 _ _ hb2
    have O2 := Lib.hid (And.intro hb2 o2)
    clear hb2 o2
    have q3 : (k : Int) + 1 ≤ 1000 := by omega
    go_wp2
    clear c1 z1
    generalize hw3 : World.setCell _ _ _ = w3
    obtain ⟨hb3, o3⟩ : w3.heap[b]? = some (.cells (xcells o n (ev.set k 1) (k + 1) G3 D3) 50 (0, 0)) ∧ Only (fun k => k = b) w w3 := by
      subst hw3
      exact ⟨xset_next hl2 O2.out.1 (k + 1), only_put O2.out.2 _ _⟩
    clear hw3 O2
    obtain ⟨c0, c1, _⟩ := xcell hl2 hb3
    have z1 := frozen_of_row w3 b 1004 _ _ hb3
    have O3 := Lib.hid (And.intro hb3 o3)
    clear hb3 o3
    by_cases hkn : k + 1 < n
    · have FIN := Lib.hid (show ∀ j, XW (w3.drewN j) b o n (q ++ [1]) ∧ Only (fun k => k = b) w (w3.drewN j) from fun j => ⟨HF.out _ (by rw [HX.out.2.2, if_pos hkn]; exact O3.out.1), O3.out.2.drewN j⟩)
      have q4 : ¬ (n : Int) ≤ ((k + 1 : Nat) : Int) := by omega
      clear O3 HF HX HB hkn hn
      go_quiet (fail)
      go_wp2
      go_end0
      exact ⟨rfl, FIN.out _⟩
    · have FIN := Lib.hid (show ∀ j, XW ((w3.drewN j).setCell ⟨b, 1004, none⟩ (.int .i64 0)) b o n (q ++ [1]) ∧ Only (fun k => k = b) w ((w3.drewN j).setCell ⟨b, 1004, none⟩ (.int .i64 0)) from
        fun j => ⟨HF.out _ (by rw [HX.out.2.2, if_neg hkn]; exact xset_next hl2 (show (w3.drewN j).heap[b]? = _ from O3.out.1) 0), only_put (O3.out.2.drewN j) _ _⟩)
      have q4 : (n : Int) ≤ ((k + 1 : Nat) : Int) := by omega
      clear O3 HF HX HB hkn hn
      go_quiet (fail)
      go_wp2
      go_end0
      exact ⟨rfl, FIN.out _⟩
end Go.Proofs.Ytnjmnklkbldmgaa

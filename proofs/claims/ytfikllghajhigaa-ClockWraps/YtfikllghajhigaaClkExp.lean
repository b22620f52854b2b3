/- expiring of the program: what runs out within n steps, in the order in which it does. No condition. -/
import Derived.Test.YtfikllghajhigaaClkIds
namespace Go.Proofs.Ytfikllghajhigaa
open Go.Proofs Go.RowKit Go.Lib Go.Sort
set_option linter.unusedVariables false

theorem insertion_none (fv : Value) (w : World) : Calls Try.prog 31 #[.slice none 0 0, .int .i64 0, .int .i64 0, fv] w fun e w' => e = .returned (.tuple #[]) ∧ w' = w := by
  go_enter Try.func31, Try.ntmps31
  go_wp2_with fail
  refine wp_loop_rounds 1 ?_
  rw [rounds_succ]
  go_wp2
  go_end0
  exact ⟨rfl, rfl⟩
theorem stable_none (fv : Value) (w : World) : Calls Try.prog 29 #[.slice none 0 0, .int .i64 0, fv] w fun e w' => e = .returned (.tuple #[]) ∧ w' = w := by
  have c := insertion_none fv
  go_enter Try.func29, Try.ntmps29
  go_wp2_with fail
  refine wp_loop_rounds 1 ?_
  rw [rounds_succ]
  go_wp2_with fail
  refine (c _).mono ?_
  rintro e w' ⟨rfl, rfl⟩
  go_wp2_with fail
  refine wp_loop_rounds 1 ?_
  rw [rounds_succ]
  go_wp2
  go_end0
  exact ⟨rfl, rfl⟩
theorem sortStable_none (fv : Value) (w : World) : Calls Try.prog 26 #[.slice none 0 0, fv] w fun e w' => e = .returned (.tuple #[]) ∧ w' = w := by
  have c := stable_none fv
  go_enter Try.func26, Try.ntmps26
  go_wp2_with fail
  refine (c _).mono ?_
  rintro e w' ⟨rfl, rfl⟩
  go_wp2
  go_end0
  exact ⟨rfl, rfl⟩
/-- the sort of what runs out -/
theorem sort_ids {w v : World} {b now bx base : Nat} {l : List Nat} {n : Nat} {A : Option Addr} {c : Nat} (h : CS v 45 b now l) (h0 : v.cell? ⟨bx, 0, none⟩ = some (.pointer (some ⟨b, 0, none⟩))) (o : IOwn v base A c (ids l n 32)) (hb : b < base) (hbx : bx < base) (hbase : base ≤ v.heap.size) :
    Calls Try.prog 26 #[.slice A (ids l n 32).length c, .func (.func 27) #[] #[.pointer (some ⟨bx, 0, none⟩)]] v fun e v' => e = .returned (.tuple #[]) ∧
      ∃ L, L.length = (ids l n 32).length ∧ Exp l n L ∧ RdI v' A (ints L) ∧ (∀ k, blk A = some k → base ≤ k) ∧ Below base v v' := by
  by_cases hl : ids l n 32 = []
  · obtain ⟨rfl, rfl⟩ := o.2 hl
    rw [hl]
    refine (sortStable_none _ v).mono ?_
    rintro e v' ⟨rfl, rfl⟩
    refine ⟨rfl, [], rfl, ⟨List.Pairwise.nil, fun x => ?_⟩, RdI.nil _ _, fun k hk => (by cases hk), Below.refl _ _⟩
    have := mem_ids (l := l) (n := n) 32 x
    rw [hl] at this
    constructor
    · intro hx; cases hx
    · intro hx; exact absurd (this.2 ⟨x.isLt, hx⟩) (by simp)
  · obtain ⟨g, rfl, hg, R⟩ := o.holds hl
    have eg : ∀ args w, (callFunc 27 args).run Try.prog w = .ok (.enter 27 args) w := enters_of Try.func27 (by kernel_rfl) rfl
    have hsz : (ids l n 32).toArray.size = (ids l n 32).length := by simp
    have C := sortStable_calls eid (cmpK l) (fun x => x.val) (rank l) (rnk l) 27 #[.pointer (some ⟨bx, 0, none⟩)] g 0 c (ids l n 32).toArray v eg (cmp_lays v l bx b g 0 _ now h h0 (by omega) (by omega)) R (by rw [hsz]; exact ids_len 32)
      (by
        rw [hsz]
        intro i j _ hij hj
        rw [ix_list _ hj, ix_list _ (by omega)]
        exact List.pairwise_iff_getElem.1 (ids_up 32) i j (by omega) hj hij)
    rw [hsz] at C
    refine C.mono ?_
    rintro e v' ⟨rfl, d', S', hd', T, M⟩
    refine ⟨rfl, d'.toList, by simpa using hd', Exp.of_sort hd' T M, rdI_of_sw S' R (by rw [hsz]; exact hd'), fun k hk => ?_, (only_of_sw S').below (fun k hk => by omega) hbase⟩
    injection hk with hk
    have hk' : g = k := hk
    omega

theorem run_load_left {w : World} {b : Nat} {M : Array Value} (h : Sem.run Try.prog (loadCellsFrom ⟨b, 1, none⟩ 0 32 #[]) w = .ok M w) : Sem.run Try.prog (Instr.loadAt 43 (.pointer (some ⟨b, 1, none⟩))) w = .ok (.agg M) w := by
  simp only [Instr.loadAt, Instr.sureAddr, loadVar, Sem.run_bind, Sem.run_pure, Result.andThen_ok, Try.isAgg43, Try.sizeOf43, loadCells, h, if_true]
theorem wpList_load_left {ops : Array Oper} {rest : List Oper} {o : Oper} {a : Act} {w : World} {Q : Exit → Act → World → Prop} (hg : o.guard = none) (x : Operand) (ho : o.op = .load 43 x)
    (b : Nat) (hx : a.eval x = .pointer (some ⟨b, 1, none⟩)) (M : Array Value) (hrun : Sem.run Try.prog (loadCellsFrom ⟨b, 1, none⟩ 0 32 #[]) w = .ok M w)
    (h : wpList Try.prog ops Q rest (a.put o.dst (.agg M)) w) : wpList Try.prog ops Q (o :: rest) a w :=
  wpList_plain hg fun _ hK => by
    unfold Oper.wp execOp
    simp only [ho, hx, Sem.run_bind, run_load_left hrun, Result.andThen_ok]
    exact hK _ _ h

set_option maxHeartbeats 1000000 in
theorem expiring_calls {w : World} {b now : Nat} {l : List Nat} (h : CS w 45 b now l) (n : Nat) (hn : n ≤ 1073741824) :
    Calls Try.prog 25 #[.pointer (some ⟨b, 0, none⟩), .int .i64 (n : Int)] w fun e w' => ∃ A c L, e = .returned (.slice A L.length c) ∧ Exp l n L ∧ RdI w' A (ints L) ∧ (∀ k, blk A = some k → w.heap.size ≤ k) ∧ Below w.heap.size w w' := by
  obtain ⟨w1, hw1⟩ : ∃ w1, w.alloc (.cells #[.pointer (some ⟨b, 0, none⟩)] 25) = w1 := ⟨_, rfl⟩
  have hb := h.lt
  have bel1 : Below w.heap.size w w1 := by rw [← hw1]; exact (Below.refl _ _).alloc (Nat.le_refl _) _
  have hs1 : w1.heap.size = w.heap.size + 1 := by rw [← hw1]; simp
  have h1 : CS w1 45 b now l := h.only (Only.of_below (fun _ => False) bel1) (fun h => h)
  have hx1 : w1.cell? ⟨w.heap.size, 0, none⟩ = some (.pointer (some ⟨b, 0, none⟩)) := by
    rw [← hw1, cell_of_row _ _ _ _ _ (0, 0) (heap_alloc_new w _)]
    rfl
  obtain ⟨M, hM⟩ : ∃ M : Array Value, M = (l.map (fun (x : Nat) => Value.int .i64 (x : Int))).toArray := ⟨_, rfl⟩
  have hload : Sem.run Try.prog (loadCellsFrom ⟨b, 1, none⟩ 0 32 #[]) w1 = .ok M w1 := by
    have e : M = #[] ++ ((List.range 32).map fun j => Value.int .i64 ((l.getD (0 + j) 0 : Nat) : Int)).toArray := by
      rw [hM, Array.empty_append]
      congr 1
      apply List.ext_getElem?
      intro j
      have := h.1
      by_cases hj : j < 32
      · simp [hj, List.getElem?_eq_getElem (show j < l.length by omega)]
      · rw [List.getElem?_eq_none (by simp; omega), List.getElem?_eq_none (by simp; omega)]
    rw [e]
    refine run_loadCellsFrom (P := Try.prog) w1 ⟨b, 1, none⟩ (fun j => Value.int .i64 ((l.getD j 0 : Nat) : Int)) 32 0 #[] (fun j hj => ?_)
    rw [Go.WideShapes.add_plain, Nat.zero_add]
    exact h1.at_ hj
  have hidx : ∀ (i : Nat), i < 32 → ∀ W, Sem.run Try.prog (Instr.index 43 (.agg M) (.int .i64 (i : Int))) W = .ok (.int .i64 ((l.getD i 0 : Nat) : Int)) W := by
    intro i hi W
    have e1 : (0 : Int) ≤ (i : Int) ∧ (i : Int) < 32 := by omega
    have e2 : M[i]? = some (.int .i64 ((l.getD i 0 : Nat) : Int)) := by
      rw [hM, List.getElem?_toArray, List.getElem?_map]
      have := h.1
      simp [List.getElem?_eq_getElem (show i < l.length by omega)]
    simp [Instr.index, asIntOf, run_underlying Try.underlying43, part, e1, go_sem]
    rw [if_pos hi, e2]
    simp
  have HI : Aside _ := hidx
  have H1 : Aside (CS w1 45 b now l) := h1
  have HB : Aside (Below w.heap.size w w1) := bel1
  have HX : Aside (w1.cell? ⟨w.heap.size, 0, none⟩ = some (.pointer (some ⟨b, 0, none⟩))) := hx1
  have HS : Aside (w1.heap.size = w.heap.size + 1) := hs1
  have HBW : Aside (b < w.heap.size) := hb
  clear hidx h1 bel1 hM hs1 h hb
  go_enter Try.func25, Try.ntmps25
  go_wp2_with (refine wpList_load_left rfl _ rfl b rfl M hload ?_)
  clear hload hx1
  go_loopg [5, 12] 32 (fun kx s5 s12 wr => ∃ (i : Nat) (A : Option Addr) (c k : Nat), s5 = .slice A k c ∧ s12 = .int .i64 i ∧ i ≤ 32 ∧ 32 - i ≤ kx ∧ Aside (k = (ids l n i).length) ∧ Aside (IOwn wr w1.heap.size A c (ids l n i)) ∧ Aside (Below w1.heap.size w1 wr))
  case atStart => exact ⟨0, none, 0, 0, rfl, rfl, by omega, by omega, rfl, IOwn.nil _ _, Below.refl _ _⟩
  case round =>
    obtain ⟨i, A, c, k, rfl, rfl, hi, hkx, HKL, HO, HW⟩ := hrel
    have hbx := HW.out.cell (p := ⟨w.heap.size, 0, none⟩) (show w.heap.size < w1.heap.size by have := HS.out; omega)
    rw [HX.out] at hbx
    have hcs : CS wr 45 b now l := H1.out.only (HW.out |> fun z => (⟨z.os, z.tape, z.output, z.size, fun k hk hF => z.block k hk⟩ : Only (fun _ => False) w1 wr)) (fun h => h)
    by_cases hlt : i < 32
    · have hltz : (i : Int) < 32 := by omega
      have hix := HI.out i hlt
      have ct := runs_calls hcs (i : Int)
      rw [runs_nat hlt] at ct
      have XL := hcs.le i
      obtain ⟨x, hx⟩ : ∃ x, x = l.getD i 0 := ⟨_, rfl⟩
      have hkx' : key l ⟨i, hlt⟩ = x := hx.symm
      rw [← hx] at hix ct XL
      have HKX : Aside (key l ⟨i, hlt⟩ = x) := hkx'
      clear hkx' hx hcs
      by_cases hd : 0 < x ∧ x ≤ n
      · obtain ⟨A', c', w', run, own, bel⟩ := HO.out.app (by have := HW.out.size; omega) (by have := ids_len (l := l) (n := n) i; omega) ⟨i, hlt⟩
        rw [← HKL.out] at run
        have e1 := ids_yes (l := l) (n := n) hlt (by unfold due; rw [HKX.out]; exact hd)
        have FIN : Aside (IOwn w' w1.heap.size A' c' (ids l n (i + 1)) ∧ Below w1.heap.size w1 w' ∧ k + 1 = (ids l n (i + 1)).length) := by
          rw [e1]
          exact ⟨own, HW.out.trans bel, by rw [List.length_append, ← HKL.out]; rfl⟩
        have hd1 : (decide (0 < x)) = true := decide_eq_true hd.1
        rw [hd1] at ct
        have hd2 : (x : Int) ≤ (n : Int) := by omega
        clear own bel e1 HO HW HKL hd hd1
        unfold eid at run
        go_wp2_with fail
        refine ct.mono ?_
        rintro e w2 ⟨rfl, rfl⟩
        go_wp2_with (at_builtin; refine Lib.wpList_append_run _ rfl _ _ _ _ rfl _ _ rfl rfl _ _ (run _) ?_)
        go_roundg (32 - (i + 1))
        case measure => omega
        case rel => exact ⟨i + 1, A', c', k + 1, rfl, by go_num, by omega, Nat.le_refl _, FIN.out.2.2, FIN.out.1, FIN.out.2.1⟩
      · have e1 := ids_no (l := l) (n := n) hlt (by unfold due; rw [HKX.out]; exact hd)
        have FIN : Aside (IOwn wr w1.heap.size A c (ids l n (i + 1)) ∧ Below w1.heap.size w1 wr ∧ k = (ids l n (i + 1)).length) := by
          rw [e1]
          exact ⟨HO.out, HW.out, HKL.out⟩
        clear e1 HO HW HKL
        by_cases hd0 : 0 < x
        · have hd1 : (decide (0 < x)) = true := decide_eq_true hd0
          rw [hd1] at ct
          have hd2 : ¬ (x : Int) ≤ (n : Int) := by omega
          clear hd hd1
          go_wp2_with fail
          refine ct.mono ?_
          rintro e w2 ⟨rfl, rfl⟩
          go_wp2
          go_roundg (32 - (i + 1))
          case measure => omega
          case rel => exact ⟨i + 1, A, c, k, rfl, by go_num, by omega, Nat.le_refl _, FIN.out.2.2, FIN.out.1, FIN.out.2.1⟩
        · have hd1 : (decide (0 < x)) = false := decide_eq_false hd0
          rw [hd1] at ct
          clear hd hd1
          go_wp2_with fail
          refine ct.mono ?_
          rintro e w2 ⟨rfl, rfl⟩
          go_wp2
          go_roundg (32 - (i + 1))
          case measure => omega
          case rel => exact ⟨i + 1, A, c, k, rfl, by go_num, by omega, Nat.le_refl _, FIN.out.2.2, FIN.out.1, FIN.out.2.1⟩
    · obtain rfl : i = 32 := by omega
      have C := sort_ids (w := w) (n := n) hcs hbx HO.out (by have := HS.out; have := HBW.out; omega) (by have := HS.out; omega) HW.out.size
      rw [← HKL.out] at C
      have BB : Aside (Below w.heap.size w wr) := HB.out.trans (HW.out.mono (by have := HS.out; omega))
      clear hcs hbx HO HW
      go_wp2_with fail
      refine C.mono ?_
      rintro e w2 ⟨rfl, L, hL, hE, hR, hK, hBl⟩
      go_wp2
      go_ret
      exact ⟨A, c, L, by rw [← hL]; rfl, hE, hR, fun q hq => by have := hK q hq; have := HS.out; omega, BB.out.trans (hBl.mono (by have := HS.out; omega))⟩
end Go.Proofs.Ytfikllghajhigaa

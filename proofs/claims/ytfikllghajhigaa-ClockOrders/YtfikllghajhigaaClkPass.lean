/- Pass of a clock of the program: what it returns and what it leaves. No condition. -/
import Derived.Test.YtfikllghajhigaaClkExp
import Derived.Deep.DeepCutAuto
namespace Go.Proofs.Ytfikllghajhigaa
open Go.Proofs Go.RowKit Go.Lib Go.Sort
set_option linter.unusedVariables false

/-- the first i timers less n steps -/
def less (l : List Nat) (n i : Nat) : List Nat := (l.take i).map (· - n) ++ l.drop i
theorem less_zero (l : List Nat) (n : Nat) : less l n 0 = l := by simp [less]
theorem less_all {l : List Nat} {n i : Nat} (h : l.length ≤ i) : less l n i = l.map (· - n) := by simp [less, List.take_of_length_le h, List.drop_of_length_le h]
theorem less_len (l : List Nat) (n i : Nat) : (less l n i).length = l.length := by simp [less]; omega
theorem less_step {l : List Nat} {n i : Nat} (h : i < l.length) : (less l n i).set i (l.getD i 0 - n) = less l n (i + 1) := by
  unfold less
  rw [List.set_append_right _ _ (by simp; omega), List.take_succ_eq_append_getElem h, List.map_append, List.append_assoc]
  congr 1
  rw [List.length_map, List.length_take, show i - min i l.length = 0 by omega, List.drop_eq_getElem_cons h, List.set_cons_zero]
  simp [h]
theorem less_at {l : List Nat} {n i : Nat} (h : i < l.length) : (less l n i).getD i 0 = l.getD i 0 := by
  unfold less
  rw [List.getD_eq_getElem?_getD, List.getElem?_append_right (by simp; omega), List.length_map, List.length_take, show i - min i l.length = 0 by omega, List.getElem?_drop, List.getD_eq_getElem?_getD]
  rfl
/-- what the load of the timers gives, and what its places hold -/
theorem left_row {w : World} {b now : Nat} {l : List Nat} (h : CS w 45 b now l) :
    ∃ M : Array Value, Sem.run Try.prog (loadCellsFrom ⟨b, 1, none⟩ 0 32 #[]) w = .ok M w ∧ ∀ (i : Nat), i < 32 → ∀ W, Sem.run Try.prog (Instr.index 43 (.agg M) (.int .i64 (i : Int))) W = .ok (.int .i64 ((l.getD i 0 : Nat) : Int)) W := by
  refine ⟨(l.map (fun (x : Nat) => Value.int .i64 (x : Int))).toArray, ?_, ?_⟩
  · have e : (l.map (fun (x : Nat) => Value.int .i64 (x : Int))).toArray = #[] ++ ((List.range 32).map fun j => Value.int .i64 ((l.getD (0 + j) 0 : Nat) : Int)).toArray := by
      rw [Array.empty_append]
      congr 1
      apply List.ext_getElem?
      intro j
      have := h.1
      by_cases hj : j < 32
      · simp [hj, List.getElem?_eq_getElem (show j < l.length by omega)]
      · rw [List.getElem?_eq_none (by simp; omega), List.getElem?_eq_none (by simp; omega)]
    rw [e]
    refine run_loadCellsFrom (P := Try.prog) w ⟨b, 1, none⟩ (fun j => Value.int .i64 ((l.getD j 0 : Nat) : Int)) 32 0 #[] (fun j hj => ?_)
    rw [Go.WideShapes.add_plain, Nat.zero_add]
    exact h.at_ hj
  · intro i hi W
    have e1 : (0 : Int) ≤ (i : Int) ∧ (i : Int) < 32 := by omega
    have e2 : (l.map (fun (x : Nat) => Value.int .i64 (x : Int))).toArray[i]? = some (.int .i64 ((l.getD i 0 : Nat) : Int)) := by
      rw [List.getElem?_toArray, List.getElem?_map]
      have := h.1
      simp [List.getElem?_eq_getElem (show i < l.length by omega)]
    generalize (l.map (fun (x : Nat) => Value.int .i64 (x : Int))).toArray = M at *
    simp [Instr.index, asIntOf, run_underlying Try.underlying43, part, e1, go_sem]
    rw [if_pos hi, e2]
    simp

/-- the time n steps later -/
def later (now n : Nat) : Nat := (now + n) % 4294967296
set_option maxHeartbeats 1000000 in
theorem pass_calls {w : World} {b now : Nat} {l : List Nat} (h : CS w 45 b now l) (n : Int) :
    Calls Try.prog 15 #[.pointer (some ⟨b, 0, none⟩), .int .i64 n] w fun e w' => ∃ A c L, e = .returned (.slice A L.length c) ∧ Exp l (cut 0 n) L ∧ RdI w' A (ints L) ∧ (∀ k, blk A = some k → w.heap.size ≤ k) ∧
      CS w' 45 b (later now (cut 0 n)) (l.map (· - cut 0 n)) ∧ Only (fun k => k = b) w w' := by
  have C := expiring_calls h (cut 0 n) (cut_le 0 n)
  have HCUT := Lib.hid (cut_int (lo := 0) (by decide) (by decide) n)
  have hNle := cut_le 0 n
  generalize cut 0 n = N at *
  have H := Lib.hid h
  clear h
  go_enter Try.func15, Try.ntmps15
  go_upto_region 1 with (fail)
  go_cut [1] (fun s1 wx => s1 = .int .i64 (N : Int) ∧ wx = w)
  case first =>
    have hn : n < 0 ∨ 1073741824 < n ∨ (0 ≤ n ∧ n ≤ 1073741824) := by omega
    rcases hn with hn | hn | ⟨hn, hn'⟩
    · go_wp2
      go_meet
      case rel => exact ⟨by first | rfl | (congr 1; done) | (congr 1; have := HCUT.out; omega), rfl⟩
    · go_wp2
      go_meet
      case rel => exact ⟨by first | rfl | (congr 1; done) | (congr 1; have := HCUT.out; omega), rfl⟩
    · go_wp2
      go_meet
      case rel => exact ⟨by first | rfl | (congr 1; done) | (congr 1; have := HCUT.out; omega), rfl⟩
  case rest =>
    obtain ⟨rfl, rfl⟩ := hcut
    go_wp2_with fail
    refine C.mono ?_
    rintro e w1 ⟨A, c, L, rfl, hE, hR, hA, bel⟩
    have h1 : CS w1 45 b now l := H.out.only (Only.of_below (fun _ => False) bel) (fun h => h)
    obtain ⟨M, hload, hidx⟩ := left_row h1
    have HI : Aside _ := hidx
    have H1 : Aside (CS w1 45 b now l) := h1
    have HE : Aside _ := hE
    have HR : Aside _ := hR
    have HA : Aside _ := hA
    have HB : Aside (Below wc.heap.size wc w1) := bel
    clear hidx h1 hE hR hA bel C
    obtain ⟨k, hk⟩ : ∃ k, k = L.length := ⟨_, rfl⟩
    rw [← hk]
    have HKK : Aside (k = L.length) := hk
    clear hk
    go_wp2_with (refine wpList_load_left rfl _ rfl b rfl M hload ?_)
    clear hload
    go_loopg [18] 32 (fun kx s18 wr => ∃ (i : Nat), s18 = .int .i64 i ∧ i ≤ 32 ∧ 32 - i ≤ kx ∧ Aside (CS wr 45 b now (less l N i)) ∧ Aside (Only (fun k => k = b) w1 wr))
    case atStart => exact ⟨0, rfl, by omega, by omega, (by rw [less_zero]; exact H1.out), Only.refl _ _⟩
    case round =>
      obtain ⟨i, rfl, hi, hkx, HC, HW⟩ := hrel
      by_cases hlt : i < 32
      · have hltz : (i : Int) < 32 := by omega
        have hix := HI.out i hlt
        have hll := H1.out.1
        have c0 := HC.out.at_ hlt
        have z0 := HC.out.frozen (1 + i)
        have XL := H1.out.le i
        have st := less_step (l := l) (n := N) (i := i) (by omega)
        have FIN : Aside (CS (wr.setCell ⟨b, 1 + i, none⟩ (.int .i64 ((l.getD i 0 - N : Nat) : Int))) 45 b now (less l N (i + 1)) ∧ Only (fun k => k = b) w1 (wr.setCell ⟨b, 1 + i, none⟩ (.int .i64 ((l.getD i 0 - N : Nat) : Int)))) := by
          refine ⟨?_, only_put HW.out _ _⟩
          rw [← st]
          exact HC.out.set hlt (by omega)
        clear st hll HC HW
        generalize l.getD i 0 = x at hix XL FIN
        generalize (less l N i).getD i 0 = y at c0
        have hmx : max ((x : Int) - (N : Int)) 0 = ((x - N : Nat) : Int) := by omega
        go_wp2
        go_roundg (32 - (i + 1))
        case measure => omega
        case rel => exact ⟨i + 1, by go_num, by omega, Nat.le_refl _, FIN.out.1, FIN.out.2⟩
      · obtain rfl : i = 32 := by omega
        have hc := HC.out
        rw [less_all (by have := hc.1; rw [less_len] at this; omega)] at hc
        have c0 := hc.now_
        have z0 := hc.frozen 0
        have hnow := hc.2.2.1
        have hw32 : IntKind.u32.wrap (N : Int) = (N : Int) := by rw [IntKind.wrap_u32]; omega
        have hadd : IntKind.u32.wrap ((now : Int) + (N : Int)) = ((later now N : Nat) : Int) := by rw [IntKind.wrap_u32]; unfold later; omega
        have FIN : Aside (CS (wr.setCell ⟨b, 0, none⟩ (.int .u32 ((later now N : Nat) : Int))) 45 b (later now N) (l.map (· - N)) ∧ Only (fun k => k = b) w1 (wr.setCell ⟨b, 0, none⟩ (.int .u32 ((later now N : Nat) : Int)))) :=
          ⟨hc.tick (by unfold later; omega), only_put HW.out _ _⟩
        have HBB : Aside (b < wc.heap.size) := H.out.lt
        clear hc HC HW
        obtain ⟨t, ht⟩ : ∃ t, t = later now N := ⟨_, rfl⟩
        rw [← ht] at hadd FIN
        have HT : Aside (t = later now N) := ht
        clear ht
        go_wp2
        go_ret
        refine ⟨A, c, L, by rw [← HKK.out]; rfl, HE.out, ?_, HA.out, ?_, ?_⟩
        · refine RdI.only HR.out FIN.out.2 fun q hq e => ?_
          have := HA.out q hq
          have := HBB.out
          omega
        · rw [← HT.out]
          exact FIN.out.1
        · exact (Only.of_below (fun k => k = b) HB.out).trans FIN.out.2 (fun i _ h => h)
end Go.Proofs.Ytfikllghajhigaa

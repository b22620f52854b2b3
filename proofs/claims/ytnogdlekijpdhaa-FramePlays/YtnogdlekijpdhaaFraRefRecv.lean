/- Push of the reference's reader where an octet is received; and Push in one contract. Condition: what was received is at most 999 octets. -/
import Derived.Test.YtnogdlekijpdhaaFraRefPush
namespace Go.Proofs.Ytnogdlekijpdhaa
open Go.RowKit
open Fcs Oct Fra
set_option linter.unusedVariables false

/-- an octet is appended: what is behind the append and its store -/
theorem rrecv_mem {F : Nat → Prop} {b M : Nat} {wide i : Bool} {n : Nat} {e lg : Bool} {A : Option Addr} {c : Nat} {q : List UInt8} {w : World} (hb : w.heap[b]? = some (.cells (rcells M wide i A q.length c n e lg) 48 (0, 0))) (own : Own w 0 A c q) (hne : blk A ≠ some b)
    (hF : F b) (hFA : ∀ k, blk A = some k → F k) (hlt : ∀ k, F k → k < w.heap.size) (hacc : q.length ≤ 1048576) (x : UInt8) :
    ∃ A' c' w2, (∀ ty, (Builtin.append_ #[22, 22] ty #[.slice A q.length c, .slice (some ⟨w.heap.size, 0, none⟩) 1 1]).run Try.prog (laid w [x]) = .ok (.slice A' (q ++ [x]).length c') w2) ∧
      w2.heap[b]? = some (.cells (rcells M wide i A q.length c n e lg) 48 (0, 0)) ∧
      ∀ w3, w3 = w2.setCell ⟨b, 3, none⟩ (.slice A' (q ++ [x]).length c') → w3.heap[b]? = some (.cells (rcells M wide i A' (q ++ [x]).length c' n e lg) 48 (0, 0)) ∧ Own w3 0 A' c' (q ++ [x]) ∧ blk A' ≠ some b ∧ (∀ k, blk A' = some k → more F w w3 k) ∧ Only F w w3 := by
  obtain ⟨A', c', w2, run, own2, on2, kin⟩ := app_only w 0 A c q [x] own (Nat.zero_le _) (by simp; omega) (by simp)
  have hbs : b < w.heap.size := lt_of_block hb
  have hb2 : w2.heap[b]? = some (.cells (rcells M wide i A q.length c n e lg) 48 (0, 0)) := (on2.block b hbs hne).trans hb
  refine ⟨A', c', w2, run, hb2, ?_⟩
  rintro w3 rfl
  have hne' : blk A' ≠ some b := by
    intro e
    rcases kin b e with h | h
    · exact hne h
    · omega
  have o3 : Only (fun k => k = b) w2 (w2.setCell ⟨b, 3, none⟩ (.slice A' (q ++ [x]).length c')) := (Only.refl (fun k => k = b) w2).setCell (p := ⟨b, 3, none⟩) (.inl rfl) _
  have os : Only F w (w2.setCell ⟨b, 3, none⟩ (.slice A' (q ++ [x]).length c')) :=
    (on2.mono (G := F) (fun i _ hi => hFA i hi)).trans o3 (fun i _ hi => by rw [hi]; exact hF)
  refine ⟨rset3 hb2 A' _ c', own2.only o3 (fun k hk e => hne' (by rw [hk, e])), hne', fun k hk => ?_, os⟩
  rcases kin k hk with h | h
  · exact .inl (hFA k h)
  · exact .inr ⟨h, Nat.lt_of_lt_of_le (own2.blk_ge k hk).2 o3.size⟩
/-- the end: the reader's block has turned once more, elsewhere nothing has -/
theorem rfin {F : Nat → Prop} {b M : Nat} {wide : Bool} {s s' : St} {x : UInt8} {w w3 w4 : World} {A : Option Addr} {c : Nat} {q : List UInt8} {n : Nat} (hx : x ≠ 126) (hn : next (M + sumN wide) s x = s')
    (o4 : Only (fun k => k = b) w3 w4) (hb : w4.heap[b]? = some (.cells (rcells M wide (inn s') A q.length c n (esc? s') (lng s')) 48 (0, 0))) (hq : RS s' q n) (own : Own w3 0 A c q) (hne : blk A ≠ some b) (hF : F b) (hFA : ∀ k, blk A = some k → more F w w3 k) (hlt : ∀ k, F k → k < w.heap.size) (os : Only F w w3) :
    RPushed F b M wide s x w (.returned (.tuple #[.int .i64 0, .slice none 0 0])) w4 := by
  have os4 : Only F w w4 := os.trans o4 (fun i _ hi => by rw [hi]; exact hF)
  refine ⟨none, 0, by rw [tells_plain wide s hx]; rfl, by rw [tells_plain wide s hx]; exact Own.nil _ _, ?_, os4⟩
  rw [hn]
  refine ⟨A, c, q, n, hb, own.only o4 (fun k hk e => hne (by rw [hk, e])), hq, hne, .inl hF, fun k hk => ?_, more_lt hlt os4.size⟩
  rcases hFA k hk with h | ⟨h1, h2⟩
  · exact .inl h
  · exact .inr ⟨h1, Nat.lt_of_lt_of_le h2 o4.size⟩

set_option maxHeartbeats 1000000 in
theorem rpush_esc (F : Nat → Prop) (b M : Nat) (wide : Bool) (acc : List UInt8) (w : World) (h : RR w F b M wide (.rd false acc)) (hacc : acc.length ≤ 999) :
    Calls Try.prog 14 #[.pointer (some ⟨b, 0, none⟩), bv 125] w (RPushed F b M wide (.rd false acc) 125 w) := by
  obtain ⟨A, c, q, n, hb, own, ⟨hun, hz, hn, hql⟩, hne, hF, hFA, hlt⟩ := h
  have hbs : b < w.heap.size := lt_of_block hb
  have hql : q.length ≤ 2 * acc.length := by simpa using hql
  have hb : w.heap[b]? = some (.cells (rcells M wide true A q.length c n false false) 48 (0, 0)) := hb
  obtain ⟨A', c', w2, run, hb2, hall⟩ := rrecv_mem hb own hne hF hFA hlt (by omega) 125
  obtain ⟨hb3, own3, hne3, hFA3, os3⟩ := hall _ rfl
  obtain ⟨_, _, c2, c3, c4, c5, c6⟩ := rcell hb
  obtain ⟨_, _, d2, d3, d4, d5, d6⟩ := rcell hb2
  have g3 := frozen_of_row w2 b 3 _ _ hb2
  have g5 := frozen_of_row w2 b 5 _ _ hb2
  have hbs2 : b < w2.heap.size := lt_of_block hb2
  have hqs : RS (.rd true acc) (q ++ [125]) n := by
    refine ⟨fun r => ?_, by simp, hn, by simp; omega⟩
    rw [List.append_assoc, hun]
    rfl
  have FS := Lib.hid (rfin (F := F) (s := .rd false acc) (x := 125) (s' := .rd true acc) (by decide) (by rw [next_plain _ (by decide)]; rfl) ((Only.refl (fun k => k = b) _).setCell (p := ⟨b, 5, none⟩) (.inl rfl) (.bool true)) (rset5 hb3 true) hqs own3 hne3 hF hFA3 hlt os3)
  have hlen : (q ++ [125]).length ≤ 1048576 := by simp; omega
  clear hb hb2 hb3 own3 hne3 hFA3 os3 hall hlt hFA hF hne own hqs hun hz hn hql
  generalize q ++ [125] = q' at *
  have hbv : bv 125 = .int .u8 125 := rfl
  rw [hbv]
  go_enter Try.func14, Try.ntmps14
  go_wp2_with (at_builtin; refine Lib.wpList_append_run _ rfl _ _ _ _ rfl _ _ rfl rfl _ _ (run _) ?_)
  go_ret2
  exact FS.out

/-- four stores -/
def rdone (w3 : World) (b n : Nat) (lg : Bool) : World := (((w3.setCell ⟨b, 5, none⟩ (.bool false)).setCell ⟨b, 4, none⟩ (.int .i64 ((n : Int) + 1))).drew).setCell ⟨b, 6, none⟩ (.bool lg)
theorem rdone_only (w : World) (b n : Nat) (lg : Bool) : Only (fun k => k = b) w (rdone w b n lg) := by
  have o : Only (fun k => k = b) w ((w.setCell ⟨b, 5, none⟩ (.bool false)).setCell ⟨b, 4, none⟩ (.int .i64 ((n : Int) + 1))) := ((Only.refl (fun k => k = b) w).setCell (p := ⟨b, 5, none⟩) (.inl rfl) _).setCell (p := ⟨b, 4, none⟩) (.inl rfl) _
  have o' : Only (fun k => k = b) w ((w.setCell ⟨b, 5, none⟩ (.bool false)).setCell ⟨b, 4, none⟩ (.int .i64 ((n : Int) + 1))).drew := ⟨o.os, o.tape, o.output, o.size, o.block⟩
  exact o'.setCell (p := ⟨b, 6, none⟩) (.inl rfl) _
theorem rdone_block {w : World} {b M : Nat} {wide i : Bool} {A : Option Addr} {m c n : Nat} {e lg : Bool} {t : TypeId} (h : w.heap[b]? = some (.cells (rcells M wide i A m c n e lg) t (0, 0))) (l' : Bool) :
    (rdone w b n l').heap[b]? = some (.cells (rcells M wide i A m c (n + 1) false l') t (0, 0)) := by
  have h4 := rset4 (rset5 h false) (n + 1)
  rw [Int.natCast_add] at h4
  exact rset6 (show ((w.setCell ⟨b, 5, none⟩ (.bool false)).setCell ⟨b, 4, none⟩ (.int .i64 ((n : Int) + 1))).drew.heap[b]? = _ from h4) l'
set_option maxHeartbeats 1000000 in
theorem rpush_recv (F : Nat → Prop) (b M : Nat) (wide : Bool) (e : Bool) (acc : List UInt8) (x y : UInt8) (w : World) (h : RR w F b M wide (.rd e acc)) (hM : M ≤ 65536) (hacc : acc.length ≤ 999) (hx : x ≠ 126) (hy : (e = false ∧ x ≠ 125 ∧ y = x) ∨ (e = true ∧ y = x ^^^ 32)) :
    Calls Try.prog 14 #[.pointer (some ⟨b, 0, none⟩), bv x] w (RPushed F b M wide (.rd e acc) x w) := by
  obtain ⟨A, c, q, n, hb, own, ⟨hun, hz, hn, hql⟩, hne, hF, hFA, hlt⟩ := h
  have hbs : b < w.heap.size := lt_of_block hb
  have hql' : q.length ≤ 2 * acc.length + 1 := by revert hql; cases e <;> simp <;> omega
  have hb : w.heap[b]? = some (.cells (rcells M wide true A q.length c n e false) 48 (0, 0)) := hb
  have hnx : next (M + sumN wide) (.rd e acc) x = recv (M + sumN wide) acc y := by
    rw [next_plain _ hx]
    rcases hy with ⟨rfl, h1, rfl⟩ | ⟨rfl, rfl⟩
    · show (if y = 125 then St.rd true acc else recv _ acc y) = _
      rw [if_neg h1]
    · rfl
  have hun1 : ∀ r, un false [] ((q ++ [x]) ++ r) = un false (acc ++ [y]) r := by
    intro r
    rw [List.append_assoc, hun]
    rcases hy with ⟨rfl, h1, rfl⟩ | ⟨rfl, rfl⟩
    · show (if y = 126 then _ else if y = 125 then _ else _) = _
      rw [if_neg hx, if_neg h1]
      rfl
    · show (if x = 126 then _ else _) = _
      rw [if_neg hx]
      rfl
  obtain ⟨A', c', w2, run, hb2, hall⟩ := rrecv_mem hb own hne hF hFA hlt (by omega) x
  obtain ⟨hb3, own3, hne3, hFA3, os3⟩ := hall _ rfl
  obtain ⟨_, _, c2, c3, c4, c5, c6⟩ := rcell hb
  obtain ⟨d0, d1, d2, d3, d4, d5, d6⟩ := rcell hb2
  have g3 := frozen_of_row w2 b 3 _ _ hb2
  have g4 := frozen_of_row w2 b 4 _ _ hb2
  have g5 := frozen_of_row w2 b 5 _ _ hb2
  have g6 := frozen_of_row w2 b 6 _ _ hb2
  have hbs2 : b < w2.heap.size := lt_of_block hb2
  have FR := Lib.hid (show ∀ lg, lg = decide (M + sumN wide < n + 1) → RPushed F b M wide (.rd e acc) x w (.returned (.tuple #[.int .i64 0, .slice none 0 0])) (rdone (w2.setCell ⟨b, 3, none⟩ (.slice A' (q ++ [x]).length c')) b n lg) from by
    intro lg hlg
    by_cases hl : M + sumN wide < n + 1
    · have hlg : lg = true := by rw [hlg]; simpa using hl
      subst hlg
      exact rfin (F := F) (s := .rd e acc) (x := x) (s' := .long) hx (by rw [hnx]; unfold recv; rw [if_pos (by omega)]) (rdone_only _ b n true) (rdone_block hb3 true) (by show (q ++ [x]).length ≠ 0; simp) own3 hne3 hF hFA3 hlt os3
    · have hlg : lg = false := by rw [hlg]; simpa using hl
      subst hlg
      refine rfin (F := F) (s := .rd e acc) (x := x) (s' := .rd false (acc ++ [y])) hx (by rw [hnx]; unfold recv; rw [if_neg (by omega)]) (rdone_only _ b n false) (rdone_block hb3 false) ⟨hun1, by simp, by rw [hn]; simp, ?_⟩ own3 hne3 hF hFA3 hlt os3
      simp
      omega)
  have hlen : (q ++ [x]).length ≤ 1048576 := by simp; omega
  have hs : ((if wide then 4 else 2 : Int)) = (sumN wide : Int) := by cases wide <;> rfl
  have cs : ∀ w, Calls Try.prog 23 #[.bool wide] w fun e w' => e = .returned (.int .i64 (sumN wide : Int)) ∧ w' = w := fun w => (tail_calls wide w).mono fun _ _ h => ⟨by rw [← hs]; exact h.1, h.2.symm⟩
  have hsn : sumN wide ≤ 4 := by cases wide <;> decide
  have hf := no_flag hx
  have hn9 : n ≤ 999 := by omega
  obtain ⟨lg, hlg⟩ : ∃ lg, lg = decide (M + sumN wide < n + 1) := ⟨_, rfl⟩
  have hlg' : decide ((M : Int) + (sumN wide : Int) < (n : Int) + 1) = lg := by rw [hlg]; exact decide_eq_decide.mpr (by omega)
  have FS := Lib.hid (FR.out lg hlg)
  unfold rdone at FS
  have hb5 := rset4 (rset5 hb3 false) (n + 1)
  rw [Int.natCast_add] at hb5
  have hb5 : (((w2.setCell ⟨b, 3, none⟩ (.slice A' (q ++ [x]).length c')).setCell ⟨b, 5, none⟩ (.bool false)).setCell ⟨b, 4, none⟩ (.int .i64 ((n : Int) + 1))).heap[b]? = some (.cells (rcells M wide true A' (q ++ [x]).length c' (n + 1) false false) 48 (0, 0)) := hb5
  obtain ⟨e0, e1, _, _, e4, _, e6⟩ := rcell hb5
  rw [Int.natCast_add] at e4
  have E0 := Lib.hid e0
  have E1 := Lib.hid e1
  have E4 := Lib.hid e4
  have E6 := Lib.hid e6
  have EZ := Lib.hid (frozen_of_row _ b 6 _ _ hb5)
  have EB := Lib.hid (lt_of_block hb5)
  clear e0 e1 e4 e6 hb5
  have wr : IntKind.i64.wrap ((M : Int) + (sumN wide : Int)) = (M : Int) + (sumN wide : Int) := by rw [IntKind.wrap_i64]; omega
  clear hb hb2 hb3 own3 hne3 hFA3 os3 hall hnx hlt hFA hF hne own FR hlg hs hun hun1 hz hql hql' hn
  generalize q ++ [x] = q' at *
  unfold bv
  rcases hy with ⟨rfl, h1, rfl⟩ | ⟨rfl, rfl⟩
  · have hesc := no_esc h1
    clear hx h1
    go_enter Try.func14, Try.ntmps14
    go_wp2_with (at_builtin; refine Lib.wpList_append_run _ rfl _ _ _ _ rfl _ _ rfl rfl _ _ (run _) ?_)
    generalize ((w2.setCell ⟨b, 3, none⟩ (.slice A' q'.length c')).setCell ⟨b, 5, none⟩ (.bool false)).setCell ⟨b, 4, none⟩ (.int .i64 ((n : Int) + 1)) = w5 at *
    have e0 := E0.out
    have e1 := E1.out
    have e4 : w5.cell? ⟨b, 4, none⟩ = some (.int .i64 ((n : Int) + 1)) := E4.out
    have e6 := E6.out
    have ez := EZ.out
    have eb := EB.out
    clear E0 E1 E4 E6 EZ EB run
    refine wp_region_still_tail 18 (by kernel_rfl) (by kernel_rfl) ?_
    simp only [List.take_succ_cons, List.take_zero, List.drop_succ_cons, List.drop_zero]
    repeat still_step
    still_call (cs _)
    repeat still_step
    refine wpStill_nil ?_
    go_wp2
    go_ret2
    exact FS.out
  · clear hx
    by_cases h1 : x = 125
    · have hesc := is_esc h1
      clear h1
      go_enter Try.func14, Try.ntmps14
      go_wp2_with (at_builtin; refine Lib.wpList_append_run _ rfl _ _ _ _ rfl _ _ rfl rfl _ _ (run _) ?_)
      generalize ((w2.setCell ⟨b, 3, none⟩ (.slice A' q'.length c')).setCell ⟨b, 5, none⟩ (.bool false)).setCell ⟨b, 4, none⟩ (.int .i64 ((n : Int) + 1)) = w5 at *
      have e0 := E0.out
      have e1 := E1.out
      have e4 : w5.cell? ⟨b, 4, none⟩ = some (.int .i64 ((n : Int) + 1)) := E4.out
      have e6 := E6.out
      have ez := EZ.out
      have eb := EB.out
      clear E0 E1 E4 E6 EZ EB run
      refine wp_region_still_tail 18 (by kernel_rfl) (by kernel_rfl) ?_
      simp only [List.take_succ_cons, List.take_zero, List.drop_succ_cons, List.drop_zero]
      repeat still_step
      still_call (cs _)
      repeat still_step
      refine wpStill_nil ?_
      go_wp2
      go_ret2
      exact FS.out
    · have hesc := no_esc h1
      clear h1
      go_enter Try.func14, Try.ntmps14
      go_wp2_with (at_builtin; refine Lib.wpList_append_run _ rfl _ _ _ _ rfl _ _ rfl rfl _ _ (run _) ?_)
      generalize ((w2.setCell ⟨b, 3, none⟩ (.slice A' q'.length c')).setCell ⟨b, 5, none⟩ (.bool false)).setCell ⟨b, 4, none⟩ (.int .i64 ((n : Int) + 1)) = w5 at *
      have e0 := E0.out
      have e1 := E1.out
      have e4 : w5.cell? ⟨b, 4, none⟩ = some (.int .i64 ((n : Int) + 1)) := E4.out
      have e6 := E6.out
      have ez := EZ.out
      have eb := EB.out
      clear E0 E1 E4 E6 EZ EB run
      refine wp_region_still_tail 18 (by kernel_rfl) (by kernel_rfl) ?_
      simp only [List.take_succ_cons, List.take_zero, List.drop_succ_cons, List.drop_zero]
      repeat still_step
      still_call (cs _)
      repeat still_step
      refine wpStill_nil ?_
      go_wp2
      go_ret2
      exact FS.out
/-- Push of the reference -/
theorem rpush_calls (F : Nat → Prop) (b M : Nat) (wide : Bool) (s : St) (x : UInt8) (w : World) (h : RR w F b M wide s) (hM : M ≤ 65536) (hacc : s.acc.length ≤ 999) :
    Calls Try.prog 14 #[.pointer (some ⟨b, 0, none⟩), bv x] w (RPushed F b M wide s x w) := by
  by_cases hx : x = 126
  · subst hx
    exact rpush_flag F b M wide s w h hacc
  · rcases st_cases s with rfl | ⟨acc, rfl⟩ | ⟨acc, rfl⟩ | rfl
    · exact rpush_same F b M wide _ x w h hx (.inl rfl)
    · by_cases he : x = 125
      · subst he
        exact rpush_esc F b M wide acc w h hacc
      · exact rpush_recv F b M wide false acc x x w h hM hacc hx (.inl ⟨rfl, he, rfl⟩)
    · exact rpush_recv F b M wide true acc x _ w h hM hacc hx (.inr ⟨rfl, rfl⟩)
    · exact rpush_same F b M wide _ x w h hx (.inr rfl)
end Go.Proofs.Ytnogdlekijpdhaa

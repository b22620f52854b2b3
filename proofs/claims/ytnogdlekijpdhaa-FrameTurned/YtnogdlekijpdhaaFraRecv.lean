/- Push of the program's reader where an octet is received; and Push in one contract. Condition: what was received is at most 999 octets. -/
import Derived.Test.YtnogdlekijpdhaaFraPush
namespace Go.Proofs.Ytnogdlekijpdhaa
open Go.RowKit
open Fcs Oct Fra
set_option linter.unusedVariables false

/-- an octet y is received: what is behind the append and its store -/
theorem recv_mem {F : Nat → Prop} {b L : Nat} {wide : Bool} {n : Nat} {A : Option Addr} {c : Nat} {acc : List UInt8} {w : World} (hb : w.heap[b]? = some (.cells (pcells L wide n A acc.length c) 45 (0, 0))) (own : Own w 0 A c acc) (hne : blk A ≠ some b)
    (hF : F b) (hFA : ∀ k, blk A = some k → F k) (hlt : ∀ k, F k → k < w.heap.size) (hacc : acc.length ≤ 999) (y : UInt8) :
    ∃ A' c' w2, (∀ ty, (Builtin.append_ #[22, 22] ty #[.slice A acc.length c, .slice (some ⟨w.heap.size, 0, none⟩) 1 1]).run Try.prog (laid (w.setCell ⟨b, 2, none⟩ (.int .i64 1)) [y]) = .ok (.slice A' (acc ++ [y]).length c') w2) ∧
      w2.heap[b]? = some (.cells (pcells L wide 1 A acc.length c) 45 (0, 0)) ∧
      ∀ w3, w3 = w2.setCell ⟨b, 3, none⟩ (.slice A' (acc ++ [y]).length c') → w3.heap[b]? = some (.cells (pcells L wide 1 A' (acc ++ [y]).length c') 45 (0, 0)) ∧ Own w3 0 A' c' (acc ++ [y]) ∧ blk A' ≠ some b ∧ (∀ k, blk A' = some k → more F w w3 k) ∧ Only F w w3 := by
  have o1 : Only (fun k => k = b) w (w.setCell ⟨b, 2, none⟩ (.int .i64 1)) := (Only.refl (fun k => k = b) w).setCell (p := ⟨b, 2, none⟩) (.inl rfl) _
  have own1 := own.only o1 (fun k hk e => hne (by rw [hk, e]))
  have hs1 : (w.setCell ⟨b, 2, none⟩ (.int .i64 1)).heap.size = w.heap.size := by simp [World.setCell]
  obtain ⟨A', c', w2, run, own2, on2, kin⟩ := app_only (w.setCell ⟨b, 2, none⟩ (.int .i64 1)) 0 A c acc [y] own1 (Nat.zero_le _) (by simp; omega) (by simp)
  rw [hs1] at run
  have hbs : b < w.heap.size := lt_of_block hb
  have hb2 : w2.heap[b]? = some (.cells (pcells L wide 1 A acc.length c) 45 (0, 0)) := (on2.block b (by rw [hs1]; exact hbs) hne).trans (pset hb 1)
  refine ⟨A', c', w2, run, hb2, ?_⟩
  rintro w3 rfl
  have hne' : blk A' ≠ some b := by
    intro e
    rcases kin b e with h | h
    · exact hne h
    · rw [hs1] at h; omega
  have o3 : Only (fun k => k = b) w2 (w2.setCell ⟨b, 3, none⟩ (.slice A' (acc ++ [y]).length c')) := (Only.refl (fun k => k = b) w2).setCell (p := ⟨b, 3, none⟩) (.inl rfl) _
  have os : Only F w (w2.setCell ⟨b, 3, none⟩ (.slice A' (acc ++ [y]).length c')) :=
    ((o1.mono (G := F) (fun i _ hi => by rw [hi]; exact hF)).trans on2 (fun i _ hi => hFA i hi)).trans o3 (fun i _ hi => by rw [hi]; exact hF)
  refine ⟨pset3 hb2 A' _ c', own2.only o3 (fun k hk e => hne' (by rw [hk, e])), hne', fun k hk => ?_, os⟩
  rcases kin k hk with h | h
  · exact .inl (hFA k h)
  · rw [hs1] at h
    exact .inr ⟨h, Nat.lt_of_lt_of_le (own2.blk_ge k hk).2 o3.size⟩
theorem fin_recv {F : Nat → Prop} {b L : Nat} {wide : Bool} {s : St} {x : UInt8} {w w3 : World} {A : Option Addr} {c : Nat} {acc : List UInt8} (hx : x ≠ 126) (hn : next L s x = .rd false acc)
    (hb : w3.heap[b]? = some (.cells (pcells L wide 1 A acc.length c) 45 (0, 0))) (own : Own w3 0 A c acc) (hne : blk A ≠ some b) (hF : F b) (hFA : ∀ k, blk A = some k → more F w w3 k) (hlt : ∀ k, F k → k < w.heap.size) (os : Only F w w3) (m : Nat) :
    Pushed F b L wide s x w (.returned (.tuple #[.int .i64 0, .slice none 0 0])) (w3.drewN m) := by
  refine ⟨none, 0, by rw [tells_plain wide s hx]; rfl, by rw [tells_plain wide s hx]; exact Own.nil _ _, ?_, ⟨os.os, os.tape, os.output, os.size, os.block⟩⟩
  rw [hn]
  exact ⟨A, c, hb, own, hne, .inl hF, hFA, more_lt hlt os.size⟩
theorem fin_long {F : Nat → Prop} {b L : Nat} {wide : Bool} {s : St} {x : UInt8} {w w3 : World} {A : Option Addr} {c m : Nat} (hx : x ≠ 126) (hn : next L s x = .long)
    (hb : w3.heap[b]? = some (.cells (pcells L wide 1 A m c) 45 (0, 0))) (hF : F b) (hlt : ∀ k, F k → k < w.heap.size) (os : Only F w w3) (m : Nat) :
    Pushed F b L wide s x w (.returned (.tuple #[.int .i64 0, .slice none 0 0])) (((w3.drewN m).setCell ⟨b, 2, none⟩ (.int .i64 3)).setCell ⟨b, 3, none⟩ (.slice none 0 0)) := by
  have os' : Only F w (w3.drewN m) := ⟨os.os, os.tape, os.output, os.size, os.block⟩
  have os2 := (os'.setCell (p := ⟨b, 2, none⟩) (.inl hF) (.int .i64 3)).setCell (p := ⟨b, 3, none⟩) (.inl hF) (.slice none 0 0)
  refine ⟨none, 0, by rw [tells_plain wide s hx]; rfl, by rw [tells_plain wide s hx]; exact Own.nil _ _, ?_, os2⟩
  rw [hn]
  exact ⟨none, 0, pset3 (pset (show (w3.drewN m).heap[b]? = _ from hb) 3) none 0 0, Own.nil _ _, by simp [blk], .inl hF, (fun k hk => by simp [blk] at hk), more_lt hlt os2.size⟩

set_option maxHeartbeats 400000 in
theorem push_recv (F : Nat → Prop) (b L : Nat) (wide : Bool) (e : Bool) (acc : List UInt8) (x y : UInt8) (w : World) (h : PR w F b L wide (.rd e acc)) (hacc : acc.length ≤ 999) (hx : x ≠ 126) (hy : (e = false ∧ x ≠ 125 ∧ y = x) ∨ (e = true ∧ y = x ^^^ 32)) :
    Calls Try.prog 13 #[.pointer (some ⟨b, 0, none⟩), bv x] w (Pushed F b L wide (.rd e acc) x w) := by
  obtain ⟨A, c, hb, own, hne, hF, hFA, hlt⟩ := h
  have hb : w.heap[b]? = some (.cells (pcells L wide (St.rd e acc).num A acc.length c) 45 (0, 0)) := hb
  have own : Own w 0 A c acc := own
  obtain ⟨_, _, hc2, hc3⟩ := pcell hb
  have hbs : b < w.heap.size := lt_of_block hb
  have hnx : next L (.rd e acc) x = recv L acc y := by
    rw [next_plain _ hx]
    rcases hy with ⟨rfl, h1, rfl⟩ | ⟨rfl, rfl⟩
    · show (if y = 125 then St.rd true acc else recv L acc y) = _
      rw [if_neg h1]
    · rfl
  have hf := no_flag hx
  have hfz := frozen_of_row w b 2 _ _ hb
  obtain ⟨A', c', w2, run, hb2, hall⟩ := recv_mem hb own hne hF hFA hlt hacc y
  obtain ⟨hb3, own3, hne3, hFA3, os3⟩ := hall _ rfl
  obtain ⟨d0, d1, d2, d3⟩ := pcell hb2
  obtain ⟨t0, t1, t2, t3⟩ := pcell hb3
  have hfz2 := frozen_of_row w2 b 3 _ _ hb2
  have hfz3 := frozen_of_row _ b 2 _ _ hb3
  have hfz4 := frozen_of_row _ b 3 _ _ hb3
  have k3 : (w.setCell ⟨b, 2, none⟩ (.int .i64 1)).cell? ⟨b, 3, none⟩ = some (.slice A acc.length c) := (pcell (pset hb 1)).2.2.2
  have hbs2 : b < w2.heap.size := lt_of_block hb2
  have FR := Lib.hid (show (acc ++ [y]).length ≤ L → ∀ m, Pushed F b L wide (.rd e acc) x w (.returned (.tuple #[.int .i64 0, .slice none 0 0])) ((w2.setCell ⟨b, 3, none⟩ (.slice A' (acc ++ [y]).length c')).drewN m) from
    fun hl m => fin_recv hx (by rw [hnx]; unfold recv; rw [if_neg (by simp at hl; omega)]) hb3 own3 hne3 hF hFA3 hlt os3 m)
  have FL := Lib.hid (show L < (acc ++ [y]).length → ∀ m, Pushed F b L wide (.rd e acc) x w (.returned (.tuple #[.int .i64 0, .slice none 0 0])) ((((w2.setCell ⟨b, 3, none⟩ (.slice A' (acc ++ [y]).length c')).drewN m).setCell ⟨b, 2, none⟩ (.int .i64 3)).setCell ⟨b, 3, none⟩ (.slice none 0 0)) from
    fun hl m => fin_long hx (by rw [hnx]; unfold recv; rw [if_pos (by simp at hl; omega)]) hb3 hF hlt os3 m)
  have hlen : (acc ++ [y]).length ≤ 1000 := by simp; omega
  clear hb hb2 hb3 own3 hne3 hFA3 os3 hall hnx hlt hFA hF hne own
  generalize acc ++ [y] = acc' at *
  have HX := Lib.hid hx
  clear hx
  go_enter Try.func13, Try.ntmps13
  go_wp2
  refine wp_scope_two (if e then 2 else 1) 5 (by cases e <;> decide) (PJ1 w b x) (PJ1 w b y) ?_ ?_ ?_
  · clear FR FL run
    unfold bv
    rcases hy with ⟨rfl, h1, rfl⟩ | ⟨rfl, rfl⟩
    · have hc2 : w.cell? ⟨b, 2, none⟩ = some (.int .i64 1) := hc2
      go_wp2
      go_step3
      exact ⟨rfl, rfl, pfr_mk rfl⟩
    · have hc2 : w.cell? ⟨b, 2, none⟩ = some (.int .i64 2) := hc2
      go_wp2
      go_step3
      exact ⟨rfl, rfl, pfr_mk rfl⟩
  · rintro a w' ⟨rfl, u, rfl⟩
    clear FR FL run
    unfold pfr bv
    rcases hy with ⟨rfl, h1, rfl⟩ | ⟨rfl, rfl⟩
    · have hesc := no_esc h1
      refine ⟨_, rfl, ?_⟩
      go_wp2
      go_step3
      exact ⟨rfl, rfl, pfr_mk rfl⟩
    · have htu := turned x
      refine ⟨_, rfl, ?_⟩
      go_wp2
      go_step3
      exact ⟨rfl, rfl, pfr_mk rfl⟩
  · rintro a w' ⟨rfl, u, rfl⟩
    clear hy hf
    unfold pfr bv
    refine ⟨_, rfl, ?_⟩
    by_cases hl : acc'.length ≤ L
    · have FS := Lib.hid (FR.out hl)
      have hl' : ¬ (L : Int) < (acc'.length : Int) := by omega
      clear FR FL hl
      go_wp2_with (at_builtin; refine Lib.wpList_append_run _ rfl _ _ _ _ rfl _ _ rfl rfl _ _ (run _) ?_)
      go_quiet (fail)
      go_wp2
      rw [jumps_ret]
      go_ret2
      exact FS.out _
    · have FS := Lib.hid (FL.out (by omega))
      have hl' : (L : Int) < (acc'.length : Int) := by omega
      clear FR FL hl
      go_wp2_with (at_builtin; refine Lib.wpList_append_run _ rfl _ _ _ _ rfl _ _ rfl rfl _ _ (run _) ?_)
      go_quiet (fail)
      go_wp2
      rw [jumps_ret]
      go_ret2
      exact FS.out _
/-- Push of the program -/
theorem push_calls (F : Nat → Prop) (b L : Nat) (wide : Bool) (s : St) (x : UInt8) (w : World) (h : PR w F b L wide s) (hacc : s.acc.length ≤ 999) :
    Calls Try.prog 13 #[.pointer (some ⟨b, 0, none⟩), bv x] w (Pushed F b L wide s x w) := by
  by_cases hx : x = 126
  · subst hx
    exact push_flag F b L wide s w h hacc
  · rcases st_cases s with rfl | ⟨acc, rfl⟩ | ⟨acc, rfl⟩ | rfl
    · exact push_same F b L wide _ x w h hx (.inl rfl)
    · by_cases he : x = 125
      · subst he
        exact push_esc F b L wide acc w h
      · exact push_recv F b L wide false acc x x w h hacc hx (.inl ⟨rfl, he, rfl⟩)
    · exact push_recv F b L wide true acc x _ w h hacc hx (.inr ⟨rfl, rfl⟩)
    · exact push_same F b L wide _ x w h hx (.inr rfl)
end Go.Proofs.Ytnogdlekijpdhaa

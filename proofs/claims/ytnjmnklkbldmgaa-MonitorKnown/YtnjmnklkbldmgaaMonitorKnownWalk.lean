/- The law MonitorKnown, walked. No condition. -/
import Derived.Test.YtnjmnklkbldmgaaMonOne
namespace Go.Proofs.Ytnjmnklkbldmgaa
open Go.RowKit
set_option linter.unusedVariables false

def strV (l : List UInt8) : Value := .string ⟨l.toArray⟩
def inp : List (List UInt8) := [[], [98], [98, 98], [98, 98, 98], [98, 98, 98, 98], [98, 98, 98, 98, 103], [98, 98, 98, 98, 103, 103], [98, 98, 103, 103], [98, 103, 98], [103, 103, 103, 103, 103, 103, 103, 103, 103, 103, 103, 103, 103, 103, 103, 103, 103, 98, 98], [98, 98, 98, 98, 103, 103, 98, 98], [98, 98, 103], [98, 98, 103, 103, 98], [98, 98, 103, 98, 103, 98]]
def wnt : List Int := [0, 0, 1, 1, 2, 2, 0, 0, 1, 1, 1, 1, 0, 2]
/-- the notes that are written so -/
def evs (x : List UInt8) : List Bool := x.map (fun c => c == 103)
theorem known_st : ∀ k, k < 14 → ((mnew 4 2 1000).heard (evs (inp.getD k []))).st = wnt.getD k 0 := by decide +kernel
theorem known_len : ∀ k, k < 14 → (inp.getD k []).length ≤ 19 := by decide
/-- the two tables -/
def knownT (W : World) : World := (W.alloc (.cells (inp.map strV).toArray 9)).alloc (.cells (wnt.map (Value.int .i64)).toArray 3)
theorem knownT_below (W : World) : Below W.heap.size W (knownT W) := ((Below.refl W.heap.size W).alloc (Nat.le_refl _) _).alloc (by simp) _
theorem at_map {α : Type} (f : α → Value) (L : List α) (d : α) (k : Nat) (h : k < L.length) : (L.map f).toArray[k]? = some (f (L.getD k d)) := by
  simp [List.getElem?_eq_getElem h]
theorem knownT_1 (W : World) (k : Nat) (h : k < 14) : (knownT W).cell? ⟨W.heap.size, k, none⟩ = some (strV (inp.getD k [])) := by
  rw [← at_map strV inp [] k h]
  refine cell_of_row _ _ k _ 9 (0, 0) ?_
  unfold knownT
  rw [Below.heap_alloc _ _ _ (by simp)]
  exact heap_alloc_new W _
theorem knownT_2 (W : World) (k : Nat) (h : k < 14) : (knownT W).cell? ⟨W.heap.size + 1, k, none⟩ = some (.int .i64 (wnt.getD k 0)) := by
  rw [← at_map (Value.int .i64) wnt 0 k h]
  refine cell_of_row _ _ k _ 3 (0, 0) ?_
  unfold knownT
  have := heap_alloc_new (W.alloc (.cells (inp.map strV).toArray 9)) (.cells (wnt.map (Value.int .i64)).toArray 3)
  simpa using this
theorem MonitorKnown_far (a : Int) (w : World) (h : a < 0 ∨ 14 ≤ a) :
    Calls Try.prog 7 #[.int .i64 a] w fun e w' => e = .returned (.bool true) ∧ Below w.heap.size w w' := by
  rcases h with h | h
  · go_enter Try.func7, Try.ntmps7
    go_wp2_with fail
    refine (alive_calls w).mono ?_
    rintro e W ⟨rfl, hb⟩
    go_wp2
    go_ret
    exact ⟨rfl, hb.trans ((knownT_below W).mono hb.size)⟩
  · have h0 : ¬ a < 0 := by omega
    go_enter Try.func7, Try.ntmps7
    go_wp2_with fail
    refine (alive_calls w).mono ?_
    rintro e W ⟨rfl, hb⟩
    go_wp2
    go_ret
    exact ⟨rfl, hb.trans ((knownT_below W).mono hb.size)⟩
/-- n of the notes heard -/
def KRel (V : World) (b : Nat) (x : List UInt8) (i : Value) (v : World) : Prop := ∃ n : Nat, n ≤ x.length ∧ i = .int .i64 n ∧ One V v b ((mnew 4 2 1000).heard ((evs x).take n))
set_option maxHeartbeats 400000 in
theorem MonitorKnown_near (k : Nat) (w : World) (h : k < 14) :
    Calls Try.prog 7 #[.int .i64 (k : Int)] w fun e w' => e = .returned (.bool true) ∧ Below w.heap.size w w' := by
  have hst := Lib.hid (known_st k h)
  have hxl := known_len k h
  go_enter Try.func7, Try.ntmps7
  go_wp2_with fail
  refine (alive_calls w).mono ?_
  rintro e W ⟨rfl, hb⟩
  have t1 := knownT_1 W k h
  have t2 := knownT_2 W k h
  have bt := knownT_below W
  go_upto_region 4 with (fail)
  change Code.wp _ _ _ _ (knownT W)
  generalize knownT W = V at *
  generalize inp.getD k [] = x at *
  generalize wnt.getD k 0 = q at *
  unfold strV at t1
  have i0 : (0 : Int) ≤ (k : Int) := by omega
  have i1 : (k : Int) < 14 := by omega
  have i2 : ¬ (k : Int) < 0 := by omega
  have i3 : ¬ (14 : Int) ≤ (k : Int) := by omega
  have c1 := World.block_lt_of_cell? V _ t1
  have c2 := World.block_lt_of_cell? V _ t2
  have HT := Lib.hid (show ∀ v, Below V.heap.size V v → v.cell? ⟨W.heap.size, k, none⟩ = some (.string ⟨x.toArray⟩) ∧ v.cell? ⟨W.heap.size + 1, k, none⟩ = some (.int .i64 q) from fun v hv => ⟨(hv.cell c1).trans t1, (hv.cell c2).trans t2⟩)
  have HB := Lib.hid (show Below w.heap.size w V from hb.trans (bt.mono hb.size))
  clear t1 t2 c1 c2 bt hb
  go_wp2_with fail
  refine (one_new 4 2 1000 V).mono ?_
  rintro e V1 ⟨b, rfl, one⟩
  have ONE := Lib.hid one
  clear one
  go_wp2
  go_loopw [7] (KRel V b x) (fun i _ => x.length - (intOf i).toNat)
  case atStart => exact ⟨0, Nat.zero_le _, rfl, ONE.out⟩
  case round =>
    clear ONE
    obtain ⟨n, hn, rfl, one⟩ := hrel
    obtain ⟨t1, t2⟩ := HT.out wr one.bel
    by_cases hlt : n < x.length
    · have hlt' : n < (evs x).length := by simpa [evs] using hlt
      have hs := Mo.heard_take (mnew 4 2 1000) (evs x) n hlt'
      have hr := Mo.heard_run ((evs x).take n) (mnew 4 2 1000) (by decide)
      have hz : (mnew 4 2 1000).run = 0 := rfl
      have hl : ((evs x).take n).length ≤ n := by simp; omega
      have he : (⟨x.toArray⟩ : ByteArray)[n]'(by simpa [ByteArray.size] using hlt) = x[n] := rfl
      obtain ⟨ok, hok⟩ : ∃ ok, ((x[n].toNat : Int) == 103) = ok := ⟨_, rfl⟩
      have hg : (evs x).getD n false = ok := by
        rw [← hok]
        unfold evs
        simp only [List.getD_eq_getElem?_getD, List.getElem?_map, List.getElem?_eq_getElem hlt, Option.map_some, Option.getD_some]
        have : x[n] = 103 ↔ (x[n].toNat : Int) = 103 := by
          constructor
          · intro h; rw [h]; rfl
          · intro h; apply UInt8.toNat.inj; show _ = 103; omega
        rw [Bool.eq_iff_iff]
        simpa using this
      rw [hg] at hs
      have cn := one.note ok (fun _ => by omega)
      rw [← hs] at cn
      generalize x[n] = y at hok he
      clear one hs hr hz hl hg hlt' hst
      go_wp2_with fail
      refine cn.mono ?_
      rintro e v1 ⟨rfl, one⟩
      have ONE := Lib.hid one
      clear one cn t1 t2
      go_wp2
      go_roundw
      case rel => exact ⟨n + 1, by omega, by go_num, ONE.out⟩
      case measure => simp [intOf]; omega
    · have hst := hst.out
      rw [show (evs x).take n = evs x from List.take_of_length_le (by simp [evs]; omega)] at one
      have cs : ∀ j, Calls Try.prog 15 #[.pointer (some ⟨b, 0, none⟩)] (wr.drewN j) fun e v' => e = .returned (.int .i64 q) ∧ v' = wr.drewN j := fun j => by
        have := (one.drewN j).state
        rw [hst] at this
        exact this
      have FIN := Lib.hid (show ∀ j, Below w.heap.size w (wr.drewN j) from fun j => HB.out.trans (((one.drewN j).bel).mono HB.out.size))
      clear one hst
      go_wp2
      go_quiet (first | (go_at_call 15; exact Calls.quiet_of_same (cs _)))
      go_wp2
      go_ret
      exact ⟨rfl, FIN.out _⟩
theorem MonitorKnown_walk (a0 : Int) (w0 : (Lit.int .i64 a0).wf = true) (w : World) : Calls Try.prog 7 #[.int .i64 a0] w fun e w' => e = .returned (.bool true) ∧ Below w.heap.size w w' := by
  by_cases h : a0 < 0 ∨ 14 ≤ a0
  · exact MonitorKnown_far a0 w h
  · obtain ⟨k, rfl⟩ : ∃ k : Nat, a0 = (k : Int) := ⟨a0.toNat, by omega⟩
    exact MonitorKnown_near k w (by omega)
end Go.Proofs.Ytnjmnklkbldmgaa

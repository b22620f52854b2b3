/- The law ArqAnswers, walked. No condition. -/
import Derived.Test.YtdidmpimlodffaaAqAlive
import Derived.Test.YtdidmpimlodffaaCtlRefBytes3
namespace Go.Proofs.Ytdidmpimlodffaa
open Go.RowKit
set_option linter.unusedVariables false

section
variable {w v v' : World} {H : Nat → Prop} {b : Nat} {s : Aq}
/-- new memory of the law's own -/
theorem AqOne.grow (h : AqOne H w v b s) (hb : Below v.heap.size v v') : AqOne (fun k => H k ∨ (v.heap.size ≤ k ∧ k < v'.heap.size)) w v' b s := by
  obtain ⟨F, h1, h2, h3, h4⟩ := h
  exact ⟨F, h1.below hb, fun k hk => ⟨(h2 k hk).1, fun hh => hh.elim (h2 k hk).2 (fun hh => by have := h1.lt k hk; omega)⟩, h3.trans (hb.mono h3.size), fun k hk => hk.elim (fun h => Nat.lt_of_lt_of_le (h4 k h) hb.size) (fun h => h.2)⟩
theorem AqOne.input (h : AqOne H w v b s) (hr : s.Room) (X : Option Addr) (e : Nat) (x : List UInt8) (hrd : Rd v X x) (hx : x.length ≤ 90000) (hxe : x.length ≤ e) (he : e ≤ 9223372036854775807) (hX : ∀ i, blk X = some i → H i) :
    Calls Try.prog 32 #[.pointer (some ⟨b, 0, none⟩), .slice X x.length e] v fun e v' => e = .returned (.tuple #[]) ∧ AqOne H w v' b (s.input x) ∧ Kept H v v' := h.call fun F hp hd => aqInput_calls hp hr x hrd hx hxe he (fun i hi hF => hd i hF (hX i hi))
end
/-- the answers, plainly -/
def ansOs (k : Nat) (t : Nat) (ah : Bool) : List (List UInt8) :=
  if k = 3 then (if ah then [Aq.hd t ++ [99]] else [Aq.hd 0 ++ [15]]) else if k = 0 ∨ k = 1 ∨ k = 2 ∨ k = 5 then [Aq.hd t ++ [15]] else []
theorem tag_hd {t : Nat} (ht : t < 65536) (l : List UInt8) : Aq.tagOf (Aq.hd t ++ l) = t := by
  unfold Aq.tagOf Aq.hd
  show (UInt8.ofNat (t / 256)).toNat * 256 + (UInt8.ofNat t).toNat = t
  rw [UInt8.toNat_ofNat', UInt8.toNat_ofNat']
  omega
theorem hd_drop (t : Nat) (l : List UInt8) : (Aq.hd t ++ l).drop 2 = l := rfl
theorem ans_rd : ∀ k : Fin 8, rdC (enc (k.val : Int) 0 0 false 128) 128 = (((k.val : Int), 0, 0, false), ((enc (k.val : Int) 0 0 false 128).length : Int), 0) := by decide +kernel
theorem ans_new : (Aq.newC (shapeC 128 4 4)).st = 0 ∧ (Aq.newC (shapeC 128 4 4)).tg = 0 ∧ (Aq.newC (shapeC 128 4 4)).os = [] ∧ (Aq.newC (shapeC 128 4 4)).m = 128 := ⟨rfl, rfl, rfl, rfl⟩
theorem enc_kind : enc 6 0 0 false 128 = [15] ∧ enc 4 0 0 false 128 = [99] := by decide +kernel
/-- what an end that is Down makes of an input -/
theorem ans_eq (s : Aq) (hs : s.st = 0 ∧ s.tg = 0 ∧ s.os = [] ∧ s.m = 128) (k : Fin 8) {t : Nat} (ht : t < 65536) :
    (s.input (Aq.hd t ++ enc (k.val : Int) 0 0 false 128)).os = ansOs k.val t (s.ahead t) ∧ ((s.input (Aq.hd t ++ enc (k.val : Int) 0 0 false 128)).st = if k.val = 3 ∧ s.ahead t = true then 2 else 0) := by
  obtain ⟨h1, h2, h3, h4⟩ := hs
  obtain ⟨e1, e2⟩ := enc_kind
  have hin : s.input (Aq.hd t ++ enc (k.val : Int) 0 0 false 128) = s.proc t (k.val : Int) 0 0 false ((Aq.hd t ++ enc (k.val : Int) 0 0 false 128).drop (2 + (((enc (k.val : Int) 0 0 false 128).length : Int)).toNat)) := by
    unfold Aq.input
    rw [hd_drop, h4, show ((128 : Nat) : Int) = 128 from rfl, ans_rd k, if_neg (by rw [List.length_append]; show ¬ 2 + _ < 2; omega), if_neg (by simp), tag_hd ht]
  rw [hin]
  generalize (Aq.hd t ++ enc (k.val : Int) 0 0 false 128).drop (2 + (((enc (k.val : Int) 0 0 false 128).length : Int)).toNat) = x
  have hput : ∀ t' k', (s.put t' k' 0 0 false []).os = [Aq.hd t' ++ enc k' 0 0 false 128] := fun t' k' => by show s.os ++ [Aq.hd t' ++ enc k' 0 0 false s.m ++ []] = _; rw [h3, h4, List.append_nil]; rfl
  obtain ⟨k, hk⟩ := k
  have hk' : k = 0 ∨ k = 1 ∨ k = 2 ∨ k = 3 ∨ k = 4 ∨ k = 5 ∨ k = 6 ∨ k = 7 := by omega
  rcases hk' with rfl | rfl | rfl | rfl | rfl | rfl | rfl | rfl
  · exact ⟨by show (s.numbd t 0 0 0 false x).os = _; unfold Aq.numbd; rw [if_pos h1]; exact (hput t 6).trans (by rw [e1]; rfl), by show (s.numbd t 0 0 0 false x).st = _; unfold Aq.numbd; rw [if_pos h1]; exact h1⟩
  · exact ⟨by show (s.numbd t 1 0 0 false x).os = _; unfold Aq.numbd; rw [if_pos h1]; exact (hput t 6).trans (by rw [e1]; rfl), by show (s.numbd t 1 0 0 false x).st = _; unfold Aq.numbd; rw [if_pos h1]; exact h1⟩
  · exact ⟨by show (s.numbd t 2 0 0 false x).os = _; unfold Aq.numbd; rw [if_pos h1]; exact (hput t 6).trans (by rw [e1]; rfl), by show (s.numbd t 2 0 0 false x).st = _; unfold Aq.numbd; rw [if_pos h1]; exact h1⟩
  · have hrq : s.proc t 3 0 0 false x = s.request t false := rfl
    show (s.proc t 3 0 0 false x).os = _ ∧ (s.proc t 3 0 0 false x).st = _
    rw [hrq]
    unfold Aq.request
    rw [if_neg (by omega), if_neg (by omega)]
    cases ha : s.ahead t
    · rw [if_neg (by simp; omega), if_pos h1]
      refine ⟨?_, h1⟩
      show (s.put s.tg 6 0 (s.nrOf 6) false []).os = _
      rw [h2]
      exact (hput 0 6).trans (by rw [e1]; rfl)
    · rw [if_pos (.inr rfl)]
      refine ⟨?_, rfl⟩
      show s.os ++ [Aq.hd t ++ enc 4 0 _ false s.m ++ []] = _
      rw [h3, h4]
      show [Aq.hd t ++ enc 4 0 0 false 128 ++ []] = _
      rw [e2]
      rfl
  · have hrq : s.proc t 4 0 0 false x = s.ua t := rfl
    show (s.proc t 4 0 0 false x).os = _ ∧ (s.proc t 4 0 0 false x).st = _
    rw [hrq]
    unfold Aq.ua
    rw [if_neg (by omega), if_neg (by omega)]
    exact ⟨h3, h1⟩
  · have hrq : s.proc t 5 0 0 false x = s.disc t false := rfl
    show (s.proc t 5 0 0 false x).os = _ ∧ (s.proc t 5 0 0 false x).st = _
    rw [hrq]
    unfold Aq.disc
    rw [if_neg (by omega)]
    exact ⟨(hput t 6).trans (by rw [e1]; rfl), h1⟩
  · have hrq : s.proc t 6 0 0 false x = s.dm t := rfl
    show (s.proc t 6 0 0 false x).os = _ ∧ (s.proc t 6 0 0 false x).st = _
    rw [hrq]
    unfold Aq.dm
    rw [if_neg (by omega), if_neg (by omega)]
    exact ⟨h3, h1⟩
  · have hrq : s.proc t 7 0 0 false x = s.frmr t := rfl
    show (s.proc t 7 0 0 false x).os = _ ∧ (s.proc t 7 0 0 false x).st = _
    rw [hrq]
    unfold Aq.frmr
    rw [if_neg (by omega)]
    exact ⟨h3, h1⟩
theorem ans_ahead {t : Nat} (ht : t < 65536) (s : Aq) (h : s.tg = 0) : s.ahead t = (decide (1 ≤ t) && decide (t ≤ 32767)) := by
  unfold Aq.ahead
  rw [h, Nat.sub_zero, show (t + 65536) % 65536 = t by omega]
set_option maxRecDepth 20000 in
set_option maxHeartbeats 2000000 in
theorem ArqAnswers_far (a0 a1 : Int) (h : ¬ (0 ≤ a0 ∧ a0 ≤ 7 ∧ 0 ≤ a1 ∧ a1 ≤ 65535)) (w : World) :
    Calls Try.prog 11 #[.int .i64 a0, .int .i64 a1] w fun e w' => e = .returned (.bool true) ∧ Below w.heap.size w w' := by
  have key : a0 < 0 ∨ (¬ a0 < 0 ∧ 7 < a0) ∨ (¬ a0 < 0 ∧ ¬ 7 < a0 ∧ a1 < 0) ∨ (¬ a0 < 0 ∧ ¬ 7 < a0 ∧ ¬ a1 < 0 ∧ 65535 < a1) := by omega
  clear h
  rcases key with g1 | ⟨g1, g2⟩ | ⟨g1, g2, g3⟩ | ⟨g1, g2, g3, g4⟩
  all_goals
    go_enter Try.func11, Try.ntmps11
    go_wp2_with fail
    refine (alive_calls w).mono ?_
    rintro e V ⟨rfl, hb⟩
    go_wp2
    go_ret
    exact ⟨rfl, hb⟩
set_option maxRecDepth 20000 in
set_option maxHeartbeats 4000000 in
theorem ArqAnswers_k0 (t : Nat) (ht : t < 65536) (w : World) :
    Calls Try.prog 11 #[.int .i64 0, .int .i64 (t : Int)] w fun e w' => e = .returned (.bool true) ∧ Below w.heap.size w w' := by
  have i1 : decide ((t : Int) < 0) = false := decide_eq_false (by omega)
  have i2 : decide ((65535 : Int) < (t : Int)) = false := decide_eq_false (by omega)
  have j1 : ¬ (t : Int) < 0 := by omega
  have j2 : ¬ (65535 : Int) < (t : Int) := by omega
  have hand : bits .and .i64 (t : Int) 255 = (t : Int) % 256 := i64_and255 _
  have h8 := byte_hi ht
  have l8 := byte_lo t
  have HA := ans_eq (Aq.newC (shapeC 128 4 4)) ans_new ⟨0, by decide⟩ ht
  have hhd : Aq.hd t = [UInt8.ofNat (t / 256), UInt8.ofNat t] := rfl
  have hah0 := ans_ahead ht (Aq.newC (shapeC 128 4 4)) rfl
  unfold ansOs at HA
  rw [hhd] at HA
  generalize UInt8.ofNat (t / 256) = hb at *
  generalize UInt8.ofNat t = lb at *
  clear hhd hah0
  have HA1 : ((Aq.newC (shapeC 128 4 4)).input ([hb, lb] ++ enc 0 0 0 false 128)).os = [[hb, lb, 15]] := HA.1
  have HA2 : ((Aq.newC (shapeC 128 4 4)).input ([hb, lb] ++ enc 0 0 0 false 128)).st = 0 := HA.2
  clear HA
  have hEl := enc_len 0 0 0 false 128
  have CB := fun v => refBytes_calls 0 0 0 false 128 v
  have NC := fun v => aqNew_calls (shapeC 128 4 4) v
  unfold cfv cfc shapeC at NC
  generalize enc 0 0 0 false 128 = E at *
  have HE := Lib.hid hEl
  have H1 := Lib.hid HA1
  have H2 := Lib.hid HA2
  clear HA1 HA2 hEl
  go_enter Try.func11, Try.ntmps11
  go_wp2_with fail
  refine (alive_calls w).mono ?_
  rintro e V ⟨rfl, hb0⟩
  have SC := shape_calls 128 4 4 V
  unfold cfv cfc shapeC at SC
  have HB := Lib.hid hb0
  clear hb0
  go_wp2_with fail
  refine SC.mono ?_
  rintro e w1 ⟨rfl, be1⟩
  have HB1 := Lib.hid (HB.out.trans (be1.mono HB.out.size))
  clear be1 SC HB
  go_wp2_with fail
  refine (NC _).mono ?_
  rintro e wc hm
  obtain ⟨b, rfl, o1, -⟩ := AqOne.made (H := fun _ => False) hm HB1.out (fun _ h => h.elim)
  change AqOne _ w wc b (Aq.newC (shapeC 128 4 4)) at o1
  have O1 := Lib.hid o1
  clear hm NC HB1 o1
  obtain ⟨W1, hW1⟩ : ∃ W1, wc.alloc (.cells #[.int .u8 (hb.toNat : Int), .int .u8 (lb.toNat : Int)] 5) = W1 := ⟨_, rfl⟩
  have hs1 : wc.heap.size < W1.heap.size := by rw [← hW1]; simp
  have ow1 : Own W1 wc.heap.size (some ⟨wc.heap.size, 0, none⟩) 2 [hb, lb] := by rw [← hW1]; exact laid_own wc [hb, lb] (by simp)
  have be1 : Below wc.heap.size wc W1 := by rw [← hW1]; exact (Below.refl _ _).alloc (Nat.le_refl _) _
  have CB1 := CB W1
  have HW := Lib.hid (And.intro ow1 be1)
  clear ow1 be1 hs1 CB
  go_wp2_with fail
  refine CB1.mono ?_
  rintro e v2 ⟨B, d, rfl, rd2, be2⟩
  have be12 := HW.out.2.trans (be2.mono HW.out.2.size)
  obtain ⟨A3, c3, v3, r3, ow3, be3⟩ := run_app v2 wc.heap.size (some ⟨wc.heap.size, 0, none⟩) 2 [hb, lb] (HW.out.1.below be2) B d E rd2 (by have := HE.out; simp; omega) be12.size
  have be13 := be12.trans be3
  have hcap := ow3.cap
  have P := (O1.out.grow be13).input ⟨by decide, by decide, by decide, by decide, by decide, by decide⟩ A3 c3 ([hb, lb] ++ E) ow3.rd (by have := HE.out; simp; omega) hcap.1 (by have := hcap.2; unfold maxLen at this; omega) (fun i hi => .inr (ow3.blk_ge i hi))
  have HX := Lib.hid (show ([hb, lb] ++ E).length = 2 + E.length by simp; omega)
  have HP := Lib.hid P
  clear P rd2 be2 be12 be3 be13 hcap ow3 HW O1 CB1
  obtain ⟨X, hX⟩ : ∃ X, [hb, lb] ++ E = X := ⟨_, rfl⟩
  rw [hX] at r3 HP H1 H2
  clear hX HX
  have r3' : ∀ ty, (Builtin.append_ #[39, 39] ty #[.slice (some ⟨wc.heap.size, 0, none⟩) 2 2, .slice B E.length d]).run Try.prog v2 = .ok (.slice A3 X.length c3) v3 := r3
  clear r3
  go_wp2_with (first | (at_builtin; refine Lib.wpList_append_run _ rfl _ _ _ _ rfl _ _ rfl rfl _ _ (r3' _) ?_) | fail)
  refine HP.out.mono ?_
  rintro e v4 ⟨rfl, o4, -⟩
  have OC := o4.output
  rw [H1.out] at OC
  have hst := H2.out
  clear o4 HP r3' H1 H2
  generalize (Aq.newC (shapeC 128 4 4)).input X = S at *
  go_wp2_with fail
  refine OC.mono ?_
  rintro e v5 ⟨A, c, G, rfl, row, o5, -, -⟩
  clear OC
  obtain ⟨g, off, B5, d5, rfl, k5, rd5, -⟩ := row.at_ (i := 0) (by simp)
  obtain ⟨W6, hW6⟩ : ∃ W6, v5.alloc (.cells #[.int .u8 (hb.toNat : Int), .int .u8 (lb.toNat : Int), .int .u8 15] 5) = W6 := ⟨_, rfl⟩
  have be6 : Below v5.heap.size v5 W6 := by rw [← hW6]; exact (Below.refl _ _).alloc (Nat.le_refl _) _
  have q1 : (convert 39 9 (.slice (some ⟨v5.heap.size, 0, none⟩) 3 3)).run Try.prog W6 = .ok (.string ⟨#[hb, lb, 15]⟩) W6 := by rw [← hW6]; exact run_conv (laid v5 [hb, lb, 15]) (some ⟨v5.heap.size, 0, none⟩) 3 [hb, lb, 15] (laid_rd _ _)
  have k0 : W6.cell? ⟨g, off, none⟩ = some (.slice B5 3 d5) := (be6.cell (World.block_lt_of_cell? v5 _ k5)).trans k5
  have q0 : (convert 39 9 (.slice B5 3 d5)).run Try.prog W6 = .ok (.string ⟨#[hb, lb, 15]⟩) W6 := run_conv W6 B5 d5 [hb, lb, 15] (rd5.below be6)
  have o6 := o5.beside be6
  have ST := o6.state
  rw [show S.output.st = S.st from rfl, hst] at ST
  have FI := Lib.hid o6.bel
  clear row k5 rd5 o5 o6 be6
  go_wp2_with fail
  refine ST.mono ?_
  rintro e v7 ⟨rfl, hv⟩
  obtain rfl := hv.symm
  go_wp2
  go_ret
  exact ⟨rfl, FI.out⟩
set_option maxRecDepth 20000 in
set_option maxHeartbeats 4000000 in
theorem ArqAnswers_k1 (t : Nat) (ht : t < 65536) (w : World) :
    Calls Try.prog 11 #[.int .i64 1, .int .i64 (t : Int)] w fun e w' => e = .returned (.bool true) ∧ Below w.heap.size w w' := by
  have i1 : decide ((t : Int) < 0) = false := decide_eq_false (by omega)
  have i2 : decide ((65535 : Int) < (t : Int)) = false := decide_eq_false (by omega)
  have j1 : ¬ (t : Int) < 0 := by omega
  have j2 : ¬ (65535 : Int) < (t : Int) := by omega
  have hand : bits .and .i64 (t : Int) 255 = (t : Int) % 256 := i64_and255 _
  have h8 := byte_hi ht
  have l8 := byte_lo t
  have HA := ans_eq (Aq.newC (shapeC 128 4 4)) ans_new ⟨1, by decide⟩ ht
  have hhd : Aq.hd t = [UInt8.ofNat (t / 256), UInt8.ofNat t] := rfl
  have hah0 := ans_ahead ht (Aq.newC (shapeC 128 4 4)) rfl
  unfold ansOs at HA
  rw [hhd] at HA
  generalize UInt8.ofNat (t / 256) = hb at *
  generalize UInt8.ofNat t = lb at *
  clear hhd hah0
  have HA1 : ((Aq.newC (shapeC 128 4 4)).input ([hb, lb] ++ enc 1 0 0 false 128)).os = [[hb, lb, 15]] := HA.1
  have HA2 : ((Aq.newC (shapeC 128 4 4)).input ([hb, lb] ++ enc 1 0 0 false 128)).st = 0 := HA.2
  clear HA
  have hEl := enc_len 1 0 0 false 128
  have CB := fun v => refBytes_calls 1 0 0 false 128 v
  have NC := fun v => aqNew_calls (shapeC 128 4 4) v
  unfold cfv cfc shapeC at NC
  generalize enc 1 0 0 false 128 = E at *
  have HE := Lib.hid hEl
  have H1 := Lib.hid HA1
  have H2 := Lib.hid HA2
  clear HA1 HA2 hEl
  go_enter Try.func11, Try.ntmps11
  go_wp2_with fail
  refine (alive_calls w).mono ?_
  rintro e V ⟨rfl, hb0⟩
  have SC := shape_calls 128 4 4 V
  unfold cfv cfc shapeC at SC
  have HB := Lib.hid hb0
  clear hb0
  go_wp2_with fail
  refine SC.mono ?_
  rintro e w1 ⟨rfl, be1⟩
  have HB1 := Lib.hid (HB.out.trans (be1.mono HB.out.size))
  clear be1 SC HB
  go_wp2_with fail
  refine (NC _).mono ?_
  rintro e wc hm
  obtain ⟨b, rfl, o1, -⟩ := AqOne.made (H := fun _ => False) hm HB1.out (fun _ h => h.elim)
  change AqOne _ w wc b (Aq.newC (shapeC 128 4 4)) at o1
  have O1 := Lib.hid o1
  clear hm NC HB1 o1
  obtain ⟨W1, hW1⟩ : ∃ W1, wc.alloc (.cells #[.int .u8 (hb.toNat : Int), .int .u8 (lb.toNat : Int)] 5) = W1 := ⟨_, rfl⟩
  have hs1 : wc.heap.size < W1.heap.size := by rw [← hW1]; simp
  have ow1 : Own W1 wc.heap.size (some ⟨wc.heap.size, 0, none⟩) 2 [hb, lb] := by rw [← hW1]; exact laid_own wc [hb, lb] (by simp)
  have be1 : Below wc.heap.size wc W1 := by rw [← hW1]; exact (Below.refl _ _).alloc (Nat.le_refl _) _
  have CB1 := CB W1
  have HW := Lib.hid (And.intro ow1 be1)
  clear ow1 be1 hs1 CB
  go_wp2_with fail
  refine CB1.mono ?_
  rintro e v2 ⟨B, d, rfl, rd2, be2⟩
  have be12 := HW.out.2.trans (be2.mono HW.out.2.size)
  obtain ⟨A3, c3, v3, r3, ow3, be3⟩ := run_app v2 wc.heap.size (some ⟨wc.heap.size, 0, none⟩) 2 [hb, lb] (HW.out.1.below be2) B d E rd2 (by have := HE.out; simp; omega) be12.size
  have be13 := be12.trans be3
  have hcap := ow3.cap
  have P := (O1.out.grow be13).input ⟨by decide, by decide, by decide, by decide, by decide, by decide⟩ A3 c3 ([hb, lb] ++ E) ow3.rd (by have := HE.out; simp; omega) hcap.1 (by have := hcap.2; unfold maxLen at this; omega) (fun i hi => .inr (ow3.blk_ge i hi))
  have HX := Lib.hid (show ([hb, lb] ++ E).length = 2 + E.length by simp; omega)
  have HP := Lib.hid P
  clear P rd2 be2 be12 be3 be13 hcap ow3 HW O1 CB1
  obtain ⟨X, hX⟩ : ∃ X, [hb, lb] ++ E = X := ⟨_, rfl⟩
  rw [hX] at r3 HP H1 H2
  clear hX HX
  have r3' : ∀ ty, (Builtin.append_ #[39, 39] ty #[.slice (some ⟨wc.heap.size, 0, none⟩) 2 2, .slice B E.length d]).run Try.prog v2 = .ok (.slice A3 X.length c3) v3 := r3
  clear r3
  go_wp2_with (first | (at_builtin; refine Lib.wpList_append_run _ rfl _ _ _ _ rfl _ _ rfl rfl _ _ (r3' _) ?_) | fail)
  refine HP.out.mono ?_
  rintro e v4 ⟨rfl, o4, -⟩
  have OC := o4.output
  rw [H1.out] at OC
  have hst := H2.out
  clear o4 HP r3' H1 H2
  generalize (Aq.newC (shapeC 128 4 4)).input X = S at *
  go_wp2_with fail
  refine OC.mono ?_
  rintro e v5 ⟨A, c, G, rfl, row, o5, -, -⟩
  clear OC
  obtain ⟨g, off, B5, d5, rfl, k5, rd5, -⟩ := row.at_ (i := 0) (by simp)
  obtain ⟨W6, hW6⟩ : ∃ W6, v5.alloc (.cells #[.int .u8 (hb.toNat : Int), .int .u8 (lb.toNat : Int), .int .u8 15] 5) = W6 := ⟨_, rfl⟩
  have be6 : Below v5.heap.size v5 W6 := by rw [← hW6]; exact (Below.refl _ _).alloc (Nat.le_refl _) _
  have q1 : (convert 39 9 (.slice (some ⟨v5.heap.size, 0, none⟩) 3 3)).run Try.prog W6 = .ok (.string ⟨#[hb, lb, 15]⟩) W6 := by rw [← hW6]; exact run_conv (laid v5 [hb, lb, 15]) (some ⟨v5.heap.size, 0, none⟩) 3 [hb, lb, 15] (laid_rd _ _)
  have k0 : W6.cell? ⟨g, off, none⟩ = some (.slice B5 3 d5) := (be6.cell (World.block_lt_of_cell? v5 _ k5)).trans k5
  have q0 : (convert 39 9 (.slice B5 3 d5)).run Try.prog W6 = .ok (.string ⟨#[hb, lb, 15]⟩) W6 := run_conv W6 B5 d5 [hb, lb, 15] (rd5.below be6)
  have o6 := o5.beside be6
  have ST := o6.state
  rw [show S.output.st = S.st from rfl, hst] at ST
  have FI := Lib.hid o6.bel
  clear row k5 rd5 o5 o6 be6
  go_wp2_with fail
  refine ST.mono ?_
  rintro e v7 ⟨rfl, hv⟩
  obtain rfl := hv.symm
  go_wp2
  go_ret
  exact ⟨rfl, FI.out⟩
set_option maxRecDepth 20000 in
set_option maxHeartbeats 4000000 in
theorem ArqAnswers_k2 (t : Nat) (ht : t < 65536) (w : World) :
    Calls Try.prog 11 #[.int .i64 2, .int .i64 (t : Int)] w fun e w' => e = .returned (.bool true) ∧ Below w.heap.size w w' := by
  have i1 : decide ((t : Int) < 0) = false := decide_eq_false (by omega)
  have i2 : decide ((65535 : Int) < (t : Int)) = false := decide_eq_false (by omega)
  have j1 : ¬ (t : Int) < 0 := by omega
  have j2 : ¬ (65535 : Int) < (t : Int) := by omega
  have hand : bits .and .i64 (t : Int) 255 = (t : Int) % 256 := i64_and255 _
  have h8 := byte_hi ht
  have l8 := byte_lo t
  have HA := ans_eq (Aq.newC (shapeC 128 4 4)) ans_new ⟨2, by decide⟩ ht
  have hhd : Aq.hd t = [UInt8.ofNat (t / 256), UInt8.ofNat t] := rfl
  have hah0 := ans_ahead ht (Aq.newC (shapeC 128 4 4)) rfl
  unfold ansOs at HA
  rw [hhd] at HA
  generalize UInt8.ofNat (t / 256) = hb at *
  generalize UInt8.ofNat t = lb at *
  clear hhd hah0
  have HA1 : ((Aq.newC (shapeC 128 4 4)).input ([hb, lb] ++ enc 2 0 0 false 128)).os = [[hb, lb, 15]] := HA.1
  have HA2 : ((Aq.newC (shapeC 128 4 4)).input ([hb, lb] ++ enc 2 0 0 false 128)).st = 0 := HA.2
  clear HA
  have hEl := enc_len 2 0 0 false 128
  have CB := fun v => refBytes_calls 2 0 0 false 128 v
  have NC := fun v => aqNew_calls (shapeC 128 4 4) v
  unfold cfv cfc shapeC at NC
  generalize enc 2 0 0 false 128 = E at *
  have HE := Lib.hid hEl
  have H1 := Lib.hid HA1
  have H2 := Lib.hid HA2
  clear HA1 HA2 hEl
  go_enter Try.func11, Try.ntmps11
  go_wp2_with fail
  refine (alive_calls w).mono ?_
  rintro e V ⟨rfl, hb0⟩
  have SC := shape_calls 128 4 4 V
  unfold cfv cfc shapeC at SC
  have HB := Lib.hid hb0
  clear hb0
  go_wp2_with fail
  refine SC.mono ?_
  rintro e w1 ⟨rfl, be1⟩
  have HB1 := Lib.hid (HB.out.trans (be1.mono HB.out.size))
  clear be1 SC HB
  go_wp2_with fail
  refine (NC _).mono ?_
  rintro e wc hm
  obtain ⟨b, rfl, o1, -⟩ := AqOne.made (H := fun _ => False) hm HB1.out (fun _ h => h.elim)
  change AqOne _ w wc b (Aq.newC (shapeC 128 4 4)) at o1
  have O1 := Lib.hid o1
  clear hm NC HB1 o1
  obtain ⟨W1, hW1⟩ : ∃ W1, wc.alloc (.cells #[.int .u8 (hb.toNat : Int), .int .u8 (lb.toNat : Int)] 5) = W1 := ⟨_, rfl⟩
  have hs1 : wc.heap.size < W1.heap.size := by rw [← hW1]; simp
  have ow1 : Own W1 wc.heap.size (some ⟨wc.heap.size, 0, none⟩) 2 [hb, lb] := by rw [← hW1]; exact laid_own wc [hb, lb] (by simp)
  have be1 : Below wc.heap.size wc W1 := by rw [← hW1]; exact (Below.refl _ _).alloc (Nat.le_refl _) _
  have CB1 := CB W1
  have HW := Lib.hid (And.intro ow1 be1)
  clear ow1 be1 hs1 CB
  go_wp2_with fail
  refine CB1.mono ?_
  rintro e v2 ⟨B, d, rfl, rd2, be2⟩
  have be12 := HW.out.2.trans (be2.mono HW.out.2.size)
  obtain ⟨A3, c3, v3, r3, ow3, be3⟩ := run_app v2 wc.heap.size (some ⟨wc.heap.size, 0, none⟩) 2 [hb, lb] (HW.out.1.below be2) B d E rd2 (by have := HE.out; simp; omega) be12.size
  have be13 := be12.trans be3
  have hcap := ow3.cap
  have P := (O1.out.grow be13).input ⟨by decide, by decide, by decide, by decide, by decide, by decide⟩ A3 c3 ([hb, lb] ++ E) ow3.rd (by have := HE.out; simp; omega) hcap.1 (by have := hcap.2; unfold maxLen at this; omega) (fun i hi => .inr (ow3.blk_ge i hi))
  have HX := Lib.hid (show ([hb, lb] ++ E).length = 2 + E.length by simp; omega)
  have HP := Lib.hid P
  clear P rd2 be2 be12 be3 be13 hcap ow3 HW O1 CB1
  obtain ⟨X, hX⟩ : ∃ X, [hb, lb] ++ E = X := ⟨_, rfl⟩
  rw [hX] at r3 HP H1 H2
  clear hX HX
  have r3' : ∀ ty, (Builtin.append_ #[39, 39] ty #[.slice (some ⟨wc.heap.size, 0, none⟩) 2 2, .slice B E.length d]).run Try.prog v2 = .ok (.slice A3 X.length c3) v3 := r3
  clear r3
  go_wp2_with (first | (at_builtin; refine Lib.wpList_append_run _ rfl _ _ _ _ rfl _ _ rfl rfl _ _ (r3' _) ?_) | fail)
  refine HP.out.mono ?_
  rintro e v4 ⟨rfl, o4, -⟩
  have OC := o4.output
  rw [H1.out] at OC
  have hst := H2.out
  clear o4 HP r3' H1 H2
  generalize (Aq.newC (shapeC 128 4 4)).input X = S at *
  go_wp2_with fail
  refine OC.mono ?_
  rintro e v5 ⟨A, c, G, rfl, row, o5, -, -⟩
  clear OC
  obtain ⟨g, off, B5, d5, rfl, k5, rd5, -⟩ := row.at_ (i := 0) (by simp)
  obtain ⟨W6, hW6⟩ : ∃ W6, v5.alloc (.cells #[.int .u8 (hb.toNat : Int), .int .u8 (lb.toNat : Int), .int .u8 15] 5) = W6 := ⟨_, rfl⟩
  have be6 : Below v5.heap.size v5 W6 := by rw [← hW6]; exact (Below.refl _ _).alloc (Nat.le_refl _) _
  have q1 : (convert 39 9 (.slice (some ⟨v5.heap.size, 0, none⟩) 3 3)).run Try.prog W6 = .ok (.string ⟨#[hb, lb, 15]⟩) W6 := by rw [← hW6]; exact run_conv (laid v5 [hb, lb, 15]) (some ⟨v5.heap.size, 0, none⟩) 3 [hb, lb, 15] (laid_rd _ _)
  have k0 : W6.cell? ⟨g, off, none⟩ = some (.slice B5 3 d5) := (be6.cell (World.block_lt_of_cell? v5 _ k5)).trans k5
  have q0 : (convert 39 9 (.slice B5 3 d5)).run Try.prog W6 = .ok (.string ⟨#[hb, lb, 15]⟩) W6 := run_conv W6 B5 d5 [hb, lb, 15] (rd5.below be6)
  have o6 := o5.beside be6
  have ST := o6.state
  rw [show S.output.st = S.st from rfl, hst] at ST
  have FI := Lib.hid o6.bel
  clear row k5 rd5 o5 o6 be6
  go_wp2_with fail
  refine ST.mono ?_
  rintro e v7 ⟨rfl, hv⟩
  obtain rfl := hv.symm
  go_wp2
  go_ret
  exact ⟨rfl, FI.out⟩
set_option maxRecDepth 20000 in
set_option maxHeartbeats 4000000 in
theorem ArqAnswers_k3t (t : Nat) (ht : t < 65536) (hah : (Aq.newC (shapeC 128 4 4)).ahead t = true) (w : World) :
    Calls Try.prog 11 #[.int .i64 3, .int .i64 (t : Int)] w fun e w' => e = .returned (.bool true) ∧ Below w.heap.size w w' := by
  have i1 : decide ((t : Int) < 0) = false := decide_eq_false (by omega)
  have i2 : decide ((65535 : Int) < (t : Int)) = false := decide_eq_false (by omega)
  have j1 : ¬ (t : Int) < 0 := by omega
  have j2 : ¬ (65535 : Int) < (t : Int) := by omega
  have hand : bits .and .i64 (t : Int) 255 = (t : Int) % 256 := i64_and255 _
  have h8 := byte_hi ht
  have l8 := byte_lo t
  have HA := ans_eq (Aq.newC (shapeC 128 4 4)) ans_new ⟨3, by decide⟩ ht
  have hhd : Aq.hd t = [UInt8.ofNat (t / 256), UInt8.ofNat t] := rfl
  have hah0 := ans_ahead ht (Aq.newC (shapeC 128 4 4)) rfl
  rw [hah] at hah0 HA
  have a1 : 1 ≤ t ∧ t ≤ 32767 := by simpa using hah0.symm
  have q1 : decide ((1 : Int) ≤ (t : Int)) = true := decide_eq_true (by omega)
  have q2 : decide ((t : Int) ≤ 32767) = true := decide_eq_true (by omega)
  have q3 : (1 : Int) ≤ (t : Int) := by omega
  have q4 : (t : Int) ≤ 32767 := by omega
  clear hah
  unfold ansOs at HA
  rw [hhd] at HA
  generalize UInt8.ofNat (t / 256) = hb at *
  generalize UInt8.ofNat t = lb at *
  clear hhd hah0
  have HA1 : ((Aq.newC (shapeC 128 4 4)).input ([hb, lb] ++ enc 3 0 0 false 128)).os = [[hb, lb, 99]] := HA.1
  have HA2 : ((Aq.newC (shapeC 128 4 4)).input ([hb, lb] ++ enc 3 0 0 false 128)).st = 2 := HA.2
  clear HA
  have hEl := enc_len 3 0 0 false 128
  have CB := fun v => refBytes_calls 3 0 0 false 128 v
  have NC := fun v => aqNew_calls (shapeC 128 4 4) v
  unfold cfv cfc shapeC at NC
  generalize enc 3 0 0 false 128 = E at *
  have HE := Lib.hid hEl
  have H1 := Lib.hid HA1
  have H2 := Lib.hid HA2
  clear HA1 HA2 hEl
  go_enter Try.func11, Try.ntmps11
  go_wp2_with fail
  refine (alive_calls w).mono ?_
  rintro e V ⟨rfl, hb0⟩
  have SC := shape_calls 128 4 4 V
  unfold cfv cfc shapeC at SC
  have HB := Lib.hid hb0
  clear hb0
  go_wp2_with fail
  refine SC.mono ?_
  rintro e w1 ⟨rfl, be1⟩
  have HB1 := Lib.hid (HB.out.trans (be1.mono HB.out.size))
  clear be1 SC HB
  go_wp2_with fail
  refine (NC _).mono ?_
  rintro e wc hm
  obtain ⟨b, rfl, o1, -⟩ := AqOne.made (H := fun _ => False) hm HB1.out (fun _ h => h.elim)
  change AqOne _ w wc b (Aq.newC (shapeC 128 4 4)) at o1
  have O1 := Lib.hid o1
  clear hm NC HB1 o1
  obtain ⟨W1, hW1⟩ : ∃ W1, wc.alloc (.cells #[.int .u8 (hb.toNat : Int), .int .u8 (lb.toNat : Int)] 5) = W1 := ⟨_, rfl⟩
  have hs1 : wc.heap.size < W1.heap.size := by rw [← hW1]; simp
  have ow1 : Own W1 wc.heap.size (some ⟨wc.heap.size, 0, none⟩) 2 [hb, lb] := by rw [← hW1]; exact laid_own wc [hb, lb] (by simp)
  have be1 : Below wc.heap.size wc W1 := by rw [← hW1]; exact (Below.refl _ _).alloc (Nat.le_refl _) _
  have CB1 := CB W1
  have HW := Lib.hid (And.intro ow1 be1)
  clear ow1 be1 hs1 CB
  go_wp2_with fail
  refine CB1.mono ?_
  rintro e v2 ⟨B, d, rfl, rd2, be2⟩
  have be12 := HW.out.2.trans (be2.mono HW.out.2.size)
  obtain ⟨A3, c3, v3, r3, ow3, be3⟩ := run_app v2 wc.heap.size (some ⟨wc.heap.size, 0, none⟩) 2 [hb, lb] (HW.out.1.below be2) B d E rd2 (by have := HE.out; simp; omega) be12.size
  have be13 := be12.trans be3
  have hcap := ow3.cap
  have P := (O1.out.grow be13).input ⟨by decide, by decide, by decide, by decide, by decide, by decide⟩ A3 c3 ([hb, lb] ++ E) ow3.rd (by have := HE.out; simp; omega) hcap.1 (by have := hcap.2; unfold maxLen at this; omega) (fun i hi => .inr (ow3.blk_ge i hi))
  have HX := Lib.hid (show ([hb, lb] ++ E).length = 2 + E.length by simp; omega)
  have HP := Lib.hid P
  clear P rd2 be2 be12 be3 be13 hcap ow3 HW O1 CB1
  obtain ⟨X, hX⟩ : ∃ X, [hb, lb] ++ E = X := ⟨_, rfl⟩
  rw [hX] at r3 HP H1 H2
  clear hX HX
  have r3' : ∀ ty, (Builtin.append_ #[39, 39] ty #[.slice (some ⟨wc.heap.size, 0, none⟩) 2 2, .slice B E.length d]).run Try.prog v2 = .ok (.slice A3 X.length c3) v3 := r3
  clear r3
  go_wp2_with (first | (at_builtin; refine Lib.wpList_append_run _ rfl _ _ _ _ rfl _ _ rfl rfl _ _ (r3' _) ?_) | fail)
  refine HP.out.mono ?_
  rintro e v4 ⟨rfl, o4, -⟩
  have OC := o4.output
  rw [H1.out] at OC
  have hst := H2.out
  clear o4 HP r3' H1 H2
  generalize (Aq.newC (shapeC 128 4 4)).input X = S at *
  go_wp2_with fail
  refine OC.mono ?_
  rintro e v5 ⟨A, c, G, rfl, row, o5, -, -⟩
  clear OC
  obtain ⟨g, off, B5, d5, rfl, k5, rd5, -⟩ := row.at_ (i := 0) (by simp)
  obtain ⟨W6, hW6⟩ : ∃ W6, v5.alloc (.cells #[.int .u8 (hb.toNat : Int), .int .u8 (lb.toNat : Int), .int .u8 99] 5) = W6 := ⟨_, rfl⟩
  have be6 : Below v5.heap.size v5 W6 := by rw [← hW6]; exact (Below.refl _ _).alloc (Nat.le_refl _) _
  have q1 : (convert 39 9 (.slice (some ⟨v5.heap.size, 0, none⟩) 3 3)).run Try.prog W6 = .ok (.string ⟨#[hb, lb, 99]⟩) W6 := by rw [← hW6]; exact run_conv (laid v5 [hb, lb, 99]) (some ⟨v5.heap.size, 0, none⟩) 3 [hb, lb, 99] (laid_rd _ _)
  have k0 : W6.cell? ⟨g, off, none⟩ = some (.slice B5 3 d5) := (be6.cell (World.block_lt_of_cell? v5 _ k5)).trans k5
  have q0 : (convert 39 9 (.slice B5 3 d5)).run Try.prog W6 = .ok (.string ⟨#[hb, lb, 99]⟩) W6 := run_conv W6 B5 d5 [hb, lb, 99] (rd5.below be6)
  have o6 := o5.beside be6
  have ST := o6.state
  rw [show S.output.st = S.st from rfl, hst] at ST
  have FI := Lib.hid o6.bel
  clear row k5 rd5 o5 o6 be6
  go_wp2_with fail
  refine ST.mono ?_
  rintro e v7 ⟨rfl, hv⟩
  obtain rfl := hv.symm
  go_wp2
  go_ret
  exact ⟨rfl, FI.out⟩
set_option maxRecDepth 20000 in
set_option maxHeartbeats 4000000 in
theorem ArqAnswers_k3f (t : Nat) (ht : t < 65536) (hah : (Aq.newC (shapeC 128 4 4)).ahead t = false) (w : World) :
    Calls Try.prog 11 #[.int .i64 3, .int .i64 (t : Int)] w fun e w' => e = .returned (.bool true) ∧ Below w.heap.size w w' := by
  have i1 : decide ((t : Int) < 0) = false := decide_eq_false (by omega)
  have i2 : decide ((65535 : Int) < (t : Int)) = false := decide_eq_false (by omega)
  have j1 : ¬ (t : Int) < 0 := by omega
  have j2 : ¬ (65535 : Int) < (t : Int) := by omega
  have hand : bits .and .i64 (t : Int) 255 = (t : Int) % 256 := i64_and255 _
  have h8 := byte_hi ht
  have l8 := byte_lo t
  have HA := ans_eq (Aq.newC (shapeC 128 4 4)) ans_new ⟨3, by decide⟩ ht
  have hhd : Aq.hd t = [UInt8.ofNat (t / 256), UInt8.ofNat t] := rfl
  have hah0 := ans_ahead ht (Aq.newC (shapeC 128 4 4)) rfl
  rw [hah] at hah0 HA
  have a1 : ¬ (1 ≤ t ∧ t ≤ 32767) := by
    rintro ⟨b1, b2⟩
    rw [decide_eq_true b1, decide_eq_true b2] at hah0
    cases hah0
  clear hah
  unfold ansOs at HA
  rw [hhd] at HA
  generalize UInt8.ofNat (t / 256) = hb at *
  generalize UInt8.ofNat t = lb at *
  clear hhd hah0
  have HA1 : ((Aq.newC (shapeC 128 4 4)).input ([hb, lb] ++ enc 3 0 0 false 128)).os = [[0, 0, 15]] := HA.1
  have HA2 : ((Aq.newC (shapeC 128 4 4)).input ([hb, lb] ++ enc 3 0 0 false 128)).st = 0 := HA.2
  clear HA
  have hEl := enc_len 3 0 0 false 128
  have CB := fun v => refBytes_calls 3 0 0 false 128 v
  have NC := fun v => aqNew_calls (shapeC 128 4 4) v
  unfold cfv cfc shapeC at NC
  generalize enc 3 0 0 false 128 = E at *
  have HE := Lib.hid hEl
  have H1 := Lib.hid HA1
  have H2 := Lib.hid HA2
  clear HA1 HA2 hEl
  go_enter Try.func11, Try.ntmps11
  go_wp2_with fail
  refine (alive_calls w).mono ?_
  rintro e V ⟨rfl, hb0⟩
  have SC := shape_calls 128 4 4 V
  unfold cfv cfc shapeC at SC
  have HB := Lib.hid hb0
  clear hb0
  go_wp2_with fail
  refine SC.mono ?_
  rintro e w1 ⟨rfl, be1⟩
  have HB1 := Lib.hid (HB.out.trans (be1.mono HB.out.size))
  clear be1 SC HB
  go_wp2_with fail
  refine (NC _).mono ?_
  rintro e wc hm
  obtain ⟨b, rfl, o1, -⟩ := AqOne.made (H := fun _ => False) hm HB1.out (fun _ h => h.elim)
  change AqOne _ w wc b (Aq.newC (shapeC 128 4 4)) at o1
  have O1 := Lib.hid o1
  clear hm NC HB1 o1
  obtain ⟨W1, hW1⟩ : ∃ W1, wc.alloc (.cells #[.int .u8 (hb.toNat : Int), .int .u8 (lb.toNat : Int)] 5) = W1 := ⟨_, rfl⟩
  have hs1 : wc.heap.size < W1.heap.size := by rw [← hW1]; simp
  have ow1 : Own W1 wc.heap.size (some ⟨wc.heap.size, 0, none⟩) 2 [hb, lb] := by rw [← hW1]; exact laid_own wc [hb, lb] (by simp)
  have be1 : Below wc.heap.size wc W1 := by rw [← hW1]; exact (Below.refl _ _).alloc (Nat.le_refl _) _
  have CB1 := CB W1
  have HW := Lib.hid (And.intro ow1 be1)
  clear ow1 be1 hs1 CB
  go_wp2_with fail
  refine CB1.mono ?_
  rintro e v2 ⟨B, d, rfl, rd2, be2⟩
  have be12 := HW.out.2.trans (be2.mono HW.out.2.size)
  obtain ⟨A3, c3, v3, r3, ow3, be3⟩ := run_app v2 wc.heap.size (some ⟨wc.heap.size, 0, none⟩) 2 [hb, lb] (HW.out.1.below be2) B d E rd2 (by have := HE.out; simp; omega) be12.size
  have be13 := be12.trans be3
  have hcap := ow3.cap
  have P := (O1.out.grow be13).input ⟨by decide, by decide, by decide, by decide, by decide, by decide⟩ A3 c3 ([hb, lb] ++ E) ow3.rd (by have := HE.out; simp; omega) hcap.1 (by have := hcap.2; unfold maxLen at this; omega) (fun i hi => .inr (ow3.blk_ge i hi))
  have HX := Lib.hid (show ([hb, lb] ++ E).length = 2 + E.length by simp; omega)
  have HP := Lib.hid P
  clear P rd2 be2 be12 be3 be13 hcap ow3 HW O1 CB1
  obtain ⟨X, hX⟩ : ∃ X, [hb, lb] ++ E = X := ⟨_, rfl⟩
  rw [hX] at r3 HP H1 H2
  clear hX HX
  have r3' : ∀ ty, (Builtin.append_ #[39, 39] ty #[.slice (some ⟨wc.heap.size, 0, none⟩) 2 2, .slice B E.length d]).run Try.prog v2 = .ok (.slice A3 X.length c3) v3 := r3
  clear r3
  go_wp2_with (first | (at_builtin; refine Lib.wpList_append_run _ rfl _ _ _ _ rfl _ _ rfl rfl _ _ (r3' _) ?_) | fail)
  refine HP.out.mono ?_
  rintro e v4 ⟨rfl, o4, -⟩
  have OC := o4.output
  rw [H1.out] at OC
  have hst := H2.out
  clear o4 HP r3' H1 H2
  generalize (Aq.newC (shapeC 128 4 4)).input X = S at *
  go_wp2_with fail
  refine OC.mono ?_
  rintro e v5 ⟨A, c, G, rfl, row, o5, -, -⟩
  clear OC
  obtain ⟨g, off, B5, d5, rfl, k5, rd5, -⟩ := row.at_ (i := 0) (by simp)
  have k0 : v5.cell? ⟨g, off, none⟩ = some (.slice B5 3 d5) := k5
  have q0 : (convert 39 9 (.slice B5 3 d5)).run Try.prog v5 = .ok (.string ⟨#[0, 0, 15]⟩) v5 := run_conv v5 B5 d5 [0, 0, 15] rd5
  have ST := o5.state
  rw [show S.output.st = S.st from rfl, hst] at ST
  have FI := Lib.hid o5.bel
  clear row k5 rd5 o5
  by_cases b1 : 1 ≤ t
  · have q1 : decide ((1 : Int) ≤ (t : Int)) = true := decide_eq_true (by omega)
    have q2 : decide ((t : Int) ≤ 32767) = false := decide_eq_false (by omega)
    have q3 : (1 : Int) ≤ (t : Int) := by omega
    have q4 : ¬ (t : Int) ≤ 32767 := by omega
    go_wp2_with fail
    refine ST.mono ?_
    rintro e v7 ⟨rfl, hv⟩
    obtain rfl := hv.symm
    go_wp2
    go_ret
    exact ⟨rfl, FI.out⟩

  · have q1 : decide ((1 : Int) ≤ (t : Int)) = false := decide_eq_false (by omega)
    have q3 : ¬ (1 : Int) ≤ (t : Int) := by omega
    go_wp2_with fail
    refine ST.mono ?_
    rintro e v7 ⟨rfl, hv⟩
    obtain rfl := hv.symm
    go_wp2
    go_ret
    exact ⟨rfl, FI.out⟩
set_option maxRecDepth 20000 in
set_option maxHeartbeats 4000000 in
theorem ArqAnswers_k4 (t : Nat) (ht : t < 65536) (w : World) :
    Calls Try.prog 11 #[.int .i64 4, .int .i64 (t : Int)] w fun e w' => e = .returned (.bool true) ∧ Below w.heap.size w w' := by
  have i1 : decide ((t : Int) < 0) = false := decide_eq_false (by omega)
  have i2 : decide ((65535 : Int) < (t : Int)) = false := decide_eq_false (by omega)
  have j1 : ¬ (t : Int) < 0 := by omega
  have j2 : ¬ (65535 : Int) < (t : Int) := by omega
  have hand : bits .and .i64 (t : Int) 255 = (t : Int) % 256 := i64_and255 _
  have h8 := byte_hi ht
  have l8 := byte_lo t
  have HA := ans_eq (Aq.newC (shapeC 128 4 4)) ans_new ⟨4, by decide⟩ ht
  have hhd : Aq.hd t = [UInt8.ofNat (t / 256), UInt8.ofNat t] := rfl
  have hah0 := ans_ahead ht (Aq.newC (shapeC 128 4 4)) rfl
  unfold ansOs at HA
  rw [hhd] at HA
  generalize UInt8.ofNat (t / 256) = hb at *
  generalize UInt8.ofNat t = lb at *
  clear hhd hah0
  have HA1 : ((Aq.newC (shapeC 128 4 4)).input ([hb, lb] ++ enc 4 0 0 false 128)).os = [] := HA.1
  have HA2 : ((Aq.newC (shapeC 128 4 4)).input ([hb, lb] ++ enc 4 0 0 false 128)).st = 0 := HA.2
  clear HA
  have hEl := enc_len 4 0 0 false 128
  have CB := fun v => refBytes_calls 4 0 0 false 128 v
  have NC := fun v => aqNew_calls (shapeC 128 4 4) v
  unfold cfv cfc shapeC at NC
  generalize enc 4 0 0 false 128 = E at *
  have HE := Lib.hid hEl
  have H1 := Lib.hid HA1
  have H2 := Lib.hid HA2
  clear HA1 HA2 hEl
  go_enter Try.func11, Try.ntmps11
  go_wp2_with fail
  refine (alive_calls w).mono ?_
  rintro e V ⟨rfl, hb0⟩
  have SC := shape_calls 128 4 4 V
  unfold cfv cfc shapeC at SC
  have HB := Lib.hid hb0
  clear hb0
  go_wp2_with fail
  refine SC.mono ?_
  rintro e w1 ⟨rfl, be1⟩
  have HB1 := Lib.hid (HB.out.trans (be1.mono HB.out.size))
  clear be1 SC HB
  go_wp2_with fail
  refine (NC _).mono ?_
  rintro e wc hm
  obtain ⟨b, rfl, o1, -⟩ := AqOne.made (H := fun _ => False) hm HB1.out (fun _ h => h.elim)
  change AqOne _ w wc b (Aq.newC (shapeC 128 4 4)) at o1
  have O1 := Lib.hid o1
  clear hm NC HB1 o1
  obtain ⟨W1, hW1⟩ : ∃ W1, wc.alloc (.cells #[.int .u8 (hb.toNat : Int), .int .u8 (lb.toNat : Int)] 5) = W1 := ⟨_, rfl⟩
  have hs1 : wc.heap.size < W1.heap.size := by rw [← hW1]; simp
  have ow1 : Own W1 wc.heap.size (some ⟨wc.heap.size, 0, none⟩) 2 [hb, lb] := by rw [← hW1]; exact laid_own wc [hb, lb] (by simp)
  have be1 : Below wc.heap.size wc W1 := by rw [← hW1]; exact (Below.refl _ _).alloc (Nat.le_refl _) _
  have CB1 := CB W1
  have HW := Lib.hid (And.intro ow1 be1)
  clear ow1 be1 hs1 CB
  go_wp2_with fail
  refine CB1.mono ?_
  rintro e v2 ⟨B, d, rfl, rd2, be2⟩
  have be12 := HW.out.2.trans (be2.mono HW.out.2.size)
  obtain ⟨A3, c3, v3, r3, ow3, be3⟩ := run_app v2 wc.heap.size (some ⟨wc.heap.size, 0, none⟩) 2 [hb, lb] (HW.out.1.below be2) B d E rd2 (by have := HE.out; simp; omega) be12.size
  have be13 := be12.trans be3
  have hcap := ow3.cap
  have P := (O1.out.grow be13).input ⟨by decide, by decide, by decide, by decide, by decide, by decide⟩ A3 c3 ([hb, lb] ++ E) ow3.rd (by have := HE.out; simp; omega) hcap.1 (by have := hcap.2; unfold maxLen at this; omega) (fun i hi => .inr (ow3.blk_ge i hi))
  have HX := Lib.hid (show ([hb, lb] ++ E).length = 2 + E.length by simp; omega)
  have HP := Lib.hid P
  clear P rd2 be2 be12 be3 be13 hcap ow3 HW O1 CB1
  obtain ⟨X, hX⟩ : ∃ X, [hb, lb] ++ E = X := ⟨_, rfl⟩
  rw [hX] at r3 HP H1 H2
  clear hX HX
  have r3' : ∀ ty, (Builtin.append_ #[39, 39] ty #[.slice (some ⟨wc.heap.size, 0, none⟩) 2 2, .slice B E.length d]).run Try.prog v2 = .ok (.slice A3 X.length c3) v3 := r3
  clear r3
  go_wp2_with (first | (at_builtin; refine Lib.wpList_append_run _ rfl _ _ _ _ rfl _ _ rfl rfl _ _ (r3' _) ?_) | fail)
  refine HP.out.mono ?_
  rintro e v4 ⟨rfl, o4, -⟩
  have OC := o4.output
  rw [H1.out] at OC
  have hst := H2.out
  clear o4 HP r3' H1 H2
  generalize (Aq.newC (shapeC 128 4 4)).input X = S at *
  go_wp2_with fail
  refine OC.mono ?_
  rintro e v5 ⟨A, c, G, rfl, row, o5, -, -⟩
  clear OC
  have ST := o5.state
  rw [show S.output.st = S.st from rfl, hst] at ST
  have FI := Lib.hid o5.bel
  clear row o5
  go_wp2_with fail
  refine ST.mono ?_
  rintro e v7 ⟨rfl, hv⟩
  obtain rfl := hv.symm
  go_wp2
  go_ret
  exact ⟨rfl, FI.out⟩
set_option maxRecDepth 20000 in
set_option maxHeartbeats 4000000 in
theorem ArqAnswers_k5 (t : Nat) (ht : t < 65536) (w : World) :
    Calls Try.prog 11 #[.int .i64 5, .int .i64 (t : Int)] w fun e w' => e = .returned (.bool true) ∧ Below w.heap.size w w' := by
  have i1 : decide ((t : Int) < 0) = false := decide_eq_false (by omega)
  have i2 : decide ((65535 : Int) < (t : Int)) = false := decide_eq_false (by omega)
  have j1 : ¬ (t : Int) < 0 := by omega
  have j2 : ¬ (65535 : Int) < (t : Int) := by omega
  have hand : bits .and .i64 (t : Int) 255 = (t : Int) % 256 := i64_and255 _
  have h8 := byte_hi ht
  have l8 := byte_lo t
  have HA := ans_eq (Aq.newC (shapeC 128 4 4)) ans_new ⟨5, by decide⟩ ht
  have hhd : Aq.hd t = [UInt8.ofNat (t / 256), UInt8.ofNat t] := rfl
  have hah0 := ans_ahead ht (Aq.newC (shapeC 128 4 4)) rfl
  unfold ansOs at HA
  rw [hhd] at HA
  generalize UInt8.ofNat (t / 256) = hb at *
  generalize UInt8.ofNat t = lb at *
  clear hhd hah0
  have HA1 : ((Aq.newC (shapeC 128 4 4)).input ([hb, lb] ++ enc 5 0 0 false 128)).os = [[hb, lb, 15]] := HA.1
  have HA2 : ((Aq.newC (shapeC 128 4 4)).input ([hb, lb] ++ enc 5 0 0 false 128)).st = 0 := HA.2
  clear HA
  have hEl := enc_len 5 0 0 false 128
  have CB := fun v => refBytes_calls 5 0 0 false 128 v
  have NC := fun v => aqNew_calls (shapeC 128 4 4) v
  unfold cfv cfc shapeC at NC
  generalize enc 5 0 0 false 128 = E at *
  have HE := Lib.hid hEl
  have H1 := Lib.hid HA1
  have H2 := Lib.hid HA2
  clear HA1 HA2 hEl
  go_enter Try.func11, Try.ntmps11
  go_wp2_with fail
  refine (alive_calls w).mono ?_
  rintro e V ⟨rfl, hb0⟩
  have SC := shape_calls 128 4 4 V
  unfold cfv cfc shapeC at SC
  have HB := Lib.hid hb0
  clear hb0
  go_wp2_with fail
  refine SC.mono ?_
  rintro e w1 ⟨rfl, be1⟩
  have HB1 := Lib.hid (HB.out.trans (be1.mono HB.out.size))
  clear be1 SC HB
  go_wp2_with fail
  refine (NC _).mono ?_
  rintro e wc hm
  obtain ⟨b, rfl, o1, -⟩ := AqOne.made (H := fun _ => False) hm HB1.out (fun _ h => h.elim)
  change AqOne _ w wc b (Aq.newC (shapeC 128 4 4)) at o1
  have O1 := Lib.hid o1
  clear hm NC HB1 o1
  obtain ⟨W1, hW1⟩ : ∃ W1, wc.alloc (.cells #[.int .u8 (hb.toNat : Int), .int .u8 (lb.toNat : Int)] 5) = W1 := ⟨_, rfl⟩
  have hs1 : wc.heap.size < W1.heap.size := by rw [← hW1]; simp
  have ow1 : Own W1 wc.heap.size (some ⟨wc.heap.size, 0, none⟩) 2 [hb, lb] := by rw [← hW1]; exact laid_own wc [hb, lb] (by simp)
  have be1 : Below wc.heap.size wc W1 := by rw [← hW1]; exact (Below.refl _ _).alloc (Nat.le_refl _) _
  have CB1 := CB W1
  have HW := Lib.hid (And.intro ow1 be1)
  clear ow1 be1 hs1 CB
  go_wp2_with fail
  refine CB1.mono ?_
  rintro e v2 ⟨B, d, rfl, rd2, be2⟩
  have be12 := HW.out.2.trans (be2.mono HW.out.2.size)
  obtain ⟨A3, c3, v3, r3, ow3, be3⟩ := run_app v2 wc.heap.size (some ⟨wc.heap.size, 0, none⟩) 2 [hb, lb] (HW.out.1.below be2) B d E rd2 (by have := HE.out; simp; omega) be12.size
  have be13 := be12.trans be3
  have hcap := ow3.cap
  have P := (O1.out.grow be13).input ⟨by decide, by decide, by decide, by decide, by decide, by decide⟩ A3 c3 ([hb, lb] ++ E) ow3.rd (by have := HE.out; simp; omega) hcap.1 (by have := hcap.2; unfold maxLen at this; omega) (fun i hi => .inr (ow3.blk_ge i hi))
  have HX := Lib.hid (show ([hb, lb] ++ E).length = 2 + E.length by simp; omega)
  have HP := Lib.hid P
  clear P rd2 be2 be12 be3 be13 hcap ow3 HW O1 CB1
  obtain ⟨X, hX⟩ : ∃ X, [hb, lb] ++ E = X := ⟨_, rfl⟩
  rw [hX] at r3 HP H1 H2
  clear hX HX
  have r3' : ∀ ty, (Builtin.append_ #[39, 39] ty #[.slice (some ⟨wc.heap.size, 0, none⟩) 2 2, .slice B E.length d]).run Try.prog v2 = .ok (.slice A3 X.length c3) v3 := r3
  clear r3
  go_wp2_with (first | (at_builtin; refine Lib.wpList_append_run _ rfl _ _ _ _ rfl _ _ rfl rfl _ _ (r3' _) ?_) | fail)
  refine HP.out.mono ?_
  rintro e v4 ⟨rfl, o4, -⟩
  have OC := o4.output
  rw [H1.out] at OC
  have hst := H2.out
  clear o4 HP r3' H1 H2
  generalize (Aq.newC (shapeC 128 4 4)).input X = S at *
  go_wp2_with fail
  refine OC.mono ?_
  rintro e v5 ⟨A, c, G, rfl, row, o5, -, -⟩
  clear OC
  obtain ⟨g, off, B5, d5, rfl, k5, rd5, -⟩ := row.at_ (i := 0) (by simp)
  obtain ⟨W6, hW6⟩ : ∃ W6, v5.alloc (.cells #[.int .u8 (hb.toNat : Int), .int .u8 (lb.toNat : Int), .int .u8 15] 5) = W6 := ⟨_, rfl⟩
  have be6 : Below v5.heap.size v5 W6 := by rw [← hW6]; exact (Below.refl _ _).alloc (Nat.le_refl _) _
  have q1 : (convert 39 9 (.slice (some ⟨v5.heap.size, 0, none⟩) 3 3)).run Try.prog W6 = .ok (.string ⟨#[hb, lb, 15]⟩) W6 := by rw [← hW6]; exact run_conv (laid v5 [hb, lb, 15]) (some ⟨v5.heap.size, 0, none⟩) 3 [hb, lb, 15] (laid_rd _ _)
  have k0 : W6.cell? ⟨g, off, none⟩ = some (.slice B5 3 d5) := (be6.cell (World.block_lt_of_cell? v5 _ k5)).trans k5
  have q0 : (convert 39 9 (.slice B5 3 d5)).run Try.prog W6 = .ok (.string ⟨#[hb, lb, 15]⟩) W6 := run_conv W6 B5 d5 [hb, lb, 15] (rd5.below be6)
  have o6 := o5.beside be6
  have ST := o6.state
  rw [show S.output.st = S.st from rfl, hst] at ST
  have FI := Lib.hid o6.bel
  clear row k5 rd5 o5 o6 be6
  go_wp2_with fail
  refine ST.mono ?_
  rintro e v7 ⟨rfl, hv⟩
  obtain rfl := hv.symm
  go_wp2
  go_ret
  exact ⟨rfl, FI.out⟩
set_option maxRecDepth 20000 in
set_option maxHeartbeats 4000000 in
theorem ArqAnswers_k6 (t : Nat) (ht : t < 65536) (w : World) :
    Calls Try.prog 11 #[.int .i64 6, .int .i64 (t : Int)] w fun e w' => e = .returned (.bool true) ∧ Below w.heap.size w w' := by
  have i1 : decide ((t : Int) < 0) = false := decide_eq_false (by omega)
  have i2 : decide ((65535 : Int) < (t : Int)) = false := decide_eq_false (by omega)
  have j1 : ¬ (t : Int) < 0 := by omega
  have j2 : ¬ (65535 : Int) < (t : Int) := by omega
  have hand : bits .and .i64 (t : Int) 255 = (t : Int) % 256 := i64_and255 _
  have h8 := byte_hi ht
  have l8 := byte_lo t
  have HA := ans_eq (Aq.newC (shapeC 128 4 4)) ans_new ⟨6, by decide⟩ ht
  have hhd : Aq.hd t = [UInt8.ofNat (t / 256), UInt8.ofNat t] := rfl
  have hah0 := ans_ahead ht (Aq.newC (shapeC 128 4 4)) rfl
  unfold ansOs at HA
  rw [hhd] at HA
  generalize UInt8.ofNat (t / 256) = hb at *
  generalize UInt8.ofNat t = lb at *
  clear hhd hah0
  have HA1 : ((Aq.newC (shapeC 128 4 4)).input ([hb, lb] ++ enc 6 0 0 false 128)).os = [] := HA.1
  have HA2 : ((Aq.newC (shapeC 128 4 4)).input ([hb, lb] ++ enc 6 0 0 false 128)).st = 0 := HA.2
  clear HA
  have hEl := enc_len 6 0 0 false 128
  have CB := fun v => refBytes_calls 6 0 0 false 128 v
  have NC := fun v => aqNew_calls (shapeC 128 4 4) v
  unfold cfv cfc shapeC at NC
  generalize enc 6 0 0 false 128 = E at *
  have HE := Lib.hid hEl
  have H1 := Lib.hid HA1
  have H2 := Lib.hid HA2
  clear HA1 HA2 hEl
  go_enter Try.func11, Try.ntmps11
  go_wp2_with fail
  refine (alive_calls w).mono ?_
  rintro e V ⟨rfl, hb0⟩
  have SC := shape_calls 128 4 4 V
  unfold cfv cfc shapeC at SC
  have HB := Lib.hid hb0
  clear hb0
  go_wp2_with fail
  refine SC.mono ?_
  rintro e w1 ⟨rfl, be1⟩
  have HB1 := Lib.hid (HB.out.trans (be1.mono HB.out.size))
  clear be1 SC HB
  go_wp2_with fail
  refine (NC _).mono ?_
  rintro e wc hm
  obtain ⟨b, rfl, o1, -⟩ := AqOne.made (H := fun _ => False) hm HB1.out (fun _ h => h.elim)
  change AqOne _ w wc b (Aq.newC (shapeC 128 4 4)) at o1
  have O1 := Lib.hid o1
  clear hm NC HB1 o1
  obtain ⟨W1, hW1⟩ : ∃ W1, wc.alloc (.cells #[.int .u8 (hb.toNat : Int), .int .u8 (lb.toNat : Int)] 5) = W1 := ⟨_, rfl⟩
  have hs1 : wc.heap.size < W1.heap.size := by rw [← hW1]; simp
  have ow1 : Own W1 wc.heap.size (some ⟨wc.heap.size, 0, none⟩) 2 [hb, lb] := by rw [← hW1]; exact laid_own wc [hb, lb] (by simp)
  have be1 : Below wc.heap.size wc W1 := by rw [← hW1]; exact (Below.refl _ _).alloc (Nat.le_refl _) _
  have CB1 := CB W1
  have HW := Lib.hid (And.intro ow1 be1)
  clear ow1 be1 hs1 CB
  go_wp2_with fail
  refine CB1.mono ?_
  rintro e v2 ⟨B, d, rfl, rd2, be2⟩
  have be12 := HW.out.2.trans (be2.mono HW.out.2.size)
  obtain ⟨A3, c3, v3, r3, ow3, be3⟩ := run_app v2 wc.heap.size (some ⟨wc.heap.size, 0, none⟩) 2 [hb, lb] (HW.out.1.below be2) B d E rd2 (by have := HE.out; simp; omega) be12.size
  have be13 := be12.trans be3
  have hcap := ow3.cap
  have P := (O1.out.grow be13).input ⟨by decide, by decide, by decide, by decide, by decide, by decide⟩ A3 c3 ([hb, lb] ++ E) ow3.rd (by have := HE.out; simp; omega) hcap.1 (by have := hcap.2; unfold maxLen at this; omega) (fun i hi => .inr (ow3.blk_ge i hi))
  have HX := Lib.hid (show ([hb, lb] ++ E).length = 2 + E.length by simp; omega)
  have HP := Lib.hid P
  clear P rd2 be2 be12 be3 be13 hcap ow3 HW O1 CB1
  obtain ⟨X, hX⟩ : ∃ X, [hb, lb] ++ E = X := ⟨_, rfl⟩
  rw [hX] at r3 HP H1 H2
  clear hX HX
  have r3' : ∀ ty, (Builtin.append_ #[39, 39] ty #[.slice (some ⟨wc.heap.size, 0, none⟩) 2 2, .slice B E.length d]).run Try.prog v2 = .ok (.slice A3 X.length c3) v3 := r3
  clear r3
  go_wp2_with (first | (at_builtin; refine Lib.wpList_append_run _ rfl _ _ _ _ rfl _ _ rfl rfl _ _ (r3' _) ?_) | fail)
  refine HP.out.mono ?_
  rintro e v4 ⟨rfl, o4, -⟩
  have OC := o4.output
  rw [H1.out] at OC
  have hst := H2.out
  clear o4 HP r3' H1 H2
  generalize (Aq.newC (shapeC 128 4 4)).input X = S at *
  go_wp2_with fail
  refine OC.mono ?_
  rintro e v5 ⟨A, c, G, rfl, row, o5, -, -⟩
  clear OC
  have ST := o5.state
  rw [show S.output.st = S.st from rfl, hst] at ST
  have FI := Lib.hid o5.bel
  clear row o5
  go_wp2_with fail
  refine ST.mono ?_
  rintro e v7 ⟨rfl, hv⟩
  obtain rfl := hv.symm
  go_wp2
  go_ret
  exact ⟨rfl, FI.out⟩
set_option maxRecDepth 20000 in
set_option maxHeartbeats 4000000 in
theorem ArqAnswers_k7 (t : Nat) (ht : t < 65536) (w : World) :
    Calls Try.prog 11 #[.int .i64 7, .int .i64 (t : Int)] w fun e w' => e = .returned (.bool true) ∧ Below w.heap.size w w' := by
  have i1 : decide ((t : Int) < 0) = false := decide_eq_false (by omega)
  have i2 : decide ((65535 : Int) < (t : Int)) = false := decide_eq_false (by omega)
  have j1 : ¬ (t : Int) < 0 := by omega
  have j2 : ¬ (65535 : Int) < (t : Int) := by omega
  have hand : bits .and .i64 (t : Int) 255 = (t : Int) % 256 := i64_and255 _
  have h8 := byte_hi ht
  have l8 := byte_lo t
  have HA := ans_eq (Aq.newC (shapeC 128 4 4)) ans_new ⟨7, by decide⟩ ht
  have hhd : Aq.hd t = [UInt8.ofNat (t / 256), UInt8.ofNat t] := rfl
  have hah0 := ans_ahead ht (Aq.newC (shapeC 128 4 4)) rfl
  unfold ansOs at HA
  rw [hhd] at HA
  generalize UInt8.ofNat (t / 256) = hb at *
  generalize UInt8.ofNat t = lb at *
  clear hhd hah0
  have HA1 : ((Aq.newC (shapeC 128 4 4)).input ([hb, lb] ++ enc 7 0 0 false 128)).os = [] := HA.1
  have HA2 : ((Aq.newC (shapeC 128 4 4)).input ([hb, lb] ++ enc 7 0 0 false 128)).st = 0 := HA.2
  clear HA
  have hEl := enc_len 7 0 0 false 128
  have CB := fun v => refBytes_calls 7 0 0 false 128 v
  have NC := fun v => aqNew_calls (shapeC 128 4 4) v
  unfold cfv cfc shapeC at NC
  generalize enc 7 0 0 false 128 = E at *
  have HE := Lib.hid hEl
  have H1 := Lib.hid HA1
  have H2 := Lib.hid HA2
  clear HA1 HA2 hEl
  go_enter Try.func11, Try.ntmps11
  go_wp2_with fail
  refine (alive_calls w).mono ?_
  rintro e V ⟨rfl, hb0⟩
  have SC := shape_calls 128 4 4 V
  unfold cfv cfc shapeC at SC
  have HB := Lib.hid hb0
  clear hb0
  go_wp2_with fail
  refine SC.mono ?_
  rintro e w1 ⟨rfl, be1⟩
  have HB1 := Lib.hid (HB.out.trans (be1.mono HB.out.size))
  clear be1 SC HB
  go_wp2_with fail
  refine (NC _).mono ?_
  rintro e wc hm
  obtain ⟨b, rfl, o1, -⟩ := AqOne.made (H := fun _ => False) hm HB1.out (fun _ h => h.elim)
  change AqOne _ w wc b (Aq.newC (shapeC 128 4 4)) at o1
  have O1 := Lib.hid o1
  clear hm NC HB1 o1
  obtain ⟨W1, hW1⟩ : ∃ W1, wc.alloc (.cells #[.int .u8 (hb.toNat : Int), .int .u8 (lb.toNat : Int)] 5) = W1 := ⟨_, rfl⟩
  have hs1 : wc.heap.size < W1.heap.size := by rw [← hW1]; simp
  have ow1 : Own W1 wc.heap.size (some ⟨wc.heap.size, 0, none⟩) 2 [hb, lb] := by rw [← hW1]; exact laid_own wc [hb, lb] (by simp)
  have be1 : Below wc.heap.size wc W1 := by rw [← hW1]; exact (Below.refl _ _).alloc (Nat.le_refl _) _
  have CB1 := CB W1
  have HW := Lib.hid (And.intro ow1 be1)
  clear ow1 be1 hs1 CB
  go_wp2_with fail
  refine CB1.mono ?_
  rintro e v2 ⟨B, d, rfl, rd2, be2⟩
  have be12 := HW.out.2.trans (be2.mono HW.out.2.size)
  obtain ⟨A3, c3, v3, r3, ow3, be3⟩ := run_app v2 wc.heap.size (some ⟨wc.heap.size, 0, none⟩) 2 [hb, lb] (HW.out.1.below be2) B d E rd2 (by have := HE.out; simp; omega) be12.size
  have be13 := be12.trans be3
  have hcap := ow3.cap
  have P := (O1.out.grow be13).input ⟨by decide, by decide, by decide, by decide, by decide, by decide⟩ A3 c3 ([hb, lb] ++ E) ow3.rd (by have := HE.out; simp; omega) hcap.1 (by have := hcap.2; unfold maxLen at this; omega) (fun i hi => .inr (ow3.blk_ge i hi))
  have HX := Lib.hid (show ([hb, lb] ++ E).length = 2 + E.length by simp; omega)
  have HP := Lib.hid P
  clear P rd2 be2 be12 be3 be13 hcap ow3 HW O1 CB1
  obtain ⟨X, hX⟩ : ∃ X, [hb, lb] ++ E = X := ⟨_, rfl⟩
  rw [hX] at r3 HP H1 H2
  clear hX HX
  have r3' : ∀ ty, (Builtin.append_ #[39, 39] ty #[.slice (some ⟨wc.heap.size, 0, none⟩) 2 2, .slice B E.length d]).run Try.prog v2 = .ok (.slice A3 X.length c3) v3 := r3
  clear r3
  go_wp2_with (first | (at_builtin; refine Lib.wpList_append_run _ rfl _ _ _ _ rfl _ _ rfl rfl _ _ (r3' _) ?_) | fail)
  refine HP.out.mono ?_
  rintro e v4 ⟨rfl, o4, -⟩
  have OC := o4.output
  rw [H1.out] at OC
  have hst := H2.out
  clear o4 HP r3' H1 H2
  generalize (Aq.newC (shapeC 128 4 4)).input X = S at *
  go_wp2_with fail
  refine OC.mono ?_
  rintro e v5 ⟨A, c, G, rfl, row, o5, -, -⟩
  clear OC
  have ST := o5.state
  rw [show S.output.st = S.st from rfl, hst] at ST
  have FI := Lib.hid o5.bel
  clear row o5
  go_wp2_with fail
  refine ST.mono ?_
  rintro e v7 ⟨rfl, hv⟩
  obtain rfl := hv.symm
  go_wp2
  go_ret
  exact ⟨rfl, FI.out⟩
theorem ArqAnswers_walk (a0 a1 : Int) (w0 : (Lit.int .i64 a0).wf = true) (w1 : (Lit.int .i64 a1).wf = true) (w : World) :
    Calls Try.prog 11 #[.int .i64 a0, .int .i64 a1] w fun e w' => e = .returned (.bool true) ∧ Below w.heap.size w w' := by
  by_cases h : 0 ≤ a0 ∧ a0 ≤ 7 ∧ 0 ≤ a1 ∧ a1 ≤ 65535
  · obtain ⟨h1, h2, h3, h4⟩ := h
    obtain ⟨t, rfl⟩ : ∃ n : Nat, a1 = n := ⟨a1.toNat, by omega⟩
    have ht : t < 65536 := by omega
    have hk : a0 = 0 ∨ a0 = 1 ∨ a0 = 2 ∨ a0 = 3 ∨ a0 = 4 ∨ a0 = 5 ∨ a0 = 6 ∨ a0 = 7 := by omega
    rcases hk with rfl | rfl | rfl | rfl | rfl | rfl | rfl | rfl
    · exact ArqAnswers_k0 t ht w
    · exact ArqAnswers_k1 t ht w
    · exact ArqAnswers_k2 t ht w
    · cases ha : (Aq.newC (shapeC 128 4 4)).ahead t
      · exact ArqAnswers_k3f t ht ha w
      · exact ArqAnswers_k3t t ht ha w
    · exact ArqAnswers_k4 t ht w
    · exact ArqAnswers_k5 t ht w
    · exact ArqAnswers_k6 t ht w
    · exact ArqAnswers_k7 t ht w
  · exact ArqAnswers_far a0 a1 h w
end Go.Proofs.Ytdidmpimlodffaa

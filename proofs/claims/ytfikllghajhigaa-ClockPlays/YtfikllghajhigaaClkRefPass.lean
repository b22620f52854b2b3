/- Pass of a clock of the reference: what it returns and what it leaves. No condition. -/
import Derived.Test.YtfikllghajhigaaClkPart
import Derived.Deep.LoopGhost
namespace Go.Proofs.Ytfikllghajhigaa
open Go.Proofs Go.RowKit Go.Lib Go.Sort
set_option linter.unusedVariables false

/-- the clock at b and the row that is made beside it -/
def RP (w v : World) (b now : Nat) (l' : List Nat) (A : Option Addr) (c : Nat) (L : List (Fin 32)) : Prop :=
  CS v 47 b now l' ∧ IOwn v w.heap.size A c L ∧ Only (fun k => k = b) w v ∧ b < w.heap.size
section
variable {w v : World} {b now c : Nat} {l' : List Nat} {A : Option Addr} {L : List (Fin 32)}
theorem RP.drewN (h : RP w v b now l' A c L) (m : Nat) : RP w (v.drewN m) b now l' A c L := ⟨h.1, h.2.1, h.2.2.1.then_drewN m, h.2.2.2⟩
theorem RP.set (h : RP w v b now l' A c L) {j x : Nat} (hj : j < 32) (hx : x ≤ 1073741824) : RP w (v.setCell ⟨b, 1 + j, none⟩ (.int .i64 (x : Int))) b now (l'.set j x) A c L := by
  refine ⟨h.1.set hj hx, ⟨ownsRow_only h.2.1.1 (only_put (Only.refl (fun k => k = b) v) _ _) fun k hk e => ?_, h.2.1.2⟩, only_put h.2.2.1 _ _, h.2.2.2⟩
  by_cases hl : L = []
  · rw [(h.2.1.2 hl).1] at hk
    cases hk
  · obtain ⟨g, rfl, hg, _⟩ := h.2.1.parts hl
    injection hk with hk
    have hk' : g = k := hk
    have := h.2.2.2
    omega
theorem RP.app (h : RP w v b now l' A c L) (hlen : L.length ≤ 100000) (x : Fin 32) :
    ∃ A' c' v', (∀ ty, (Builtin.append_ #[34, 34] ty #[.slice A L.length c, .slice (some ⟨v.heap.size, 0, none⟩) 1 1]).run Try.prog (v.alloc (.cells #[eid x] 3)) = .ok (.slice A' (L.length + 1) c') v') ∧ RP w v' b now l' A' c' (L ++ [x]) := by
  obtain ⟨A', c', v', run, own, bel⟩ := h.2.1.app h.2.2.1.size hlen x
  refine ⟨A', c', v', run, ⟨h.1.1, h.1.2.1, h.1.2.2.1, ?_⟩, own, h.2.2.1.then_below bel, h.2.2.2⟩
  rw [bel.block b h.2.2.2]
  exact h.1.2.2.2
end
theorem set_zero {l : List Nat} {i : Nat} (hi : i < l.length) (h : l.getD i 0 = 0) : l.set i 0 = l := by
  apply List.ext_getElem?
  intro j
  rw [List.getElem?_set]
  by_cases e : i = j
  · subst e
    rw [if_pos rfl, if_pos hi, List.getElem?_eq_getElem hi]
    rw [List.getD_eq_getElem?_getD, List.getElem?_eq_getElem hi] at h
    rw [show l[i] = 0 from h]
  · rw [if_neg e]
theorem less_skip {l : List Nat} {n i : Nat} (hi : i < l.length) (h : l.getD i 0 = 0) : less l n (i + 1) = less l n i := by
  rw [← less_step hi, h, Nat.zero_sub]
  exact set_zero (by rw [less_len]; exact hi) (by rw [less_at hi]; exact h)
theorem rdI_of_own {v : World} {base : Nat} {A : Option Addr} {c : Nat} {L : List (Fin 32)} (h : IOwn v base A c L) : RdI v A (ints L) := fun hne => by
  have hl : L ≠ [] := by rintro rfl; exact hne rfl
  obtain ⟨g, rfl, _, _, _, hc, _⟩ := h.parts hl
  refine ⟨g, 0, rfl, fun j hj => ?_⟩
  have hj' : j < L.length := by simpa [ints] using hj
  rw [hc j hj', ints_getD L j hj']
  rfl

set_option maxHeartbeats 4000000 in
set_option maxRecDepth 100000 in
theorem refPass_calls {w : World} {b now : Nat} {l : List Nat} (h : CS w 47 b now l) (n : Int) :
    Calls Try.prog 16 #[.pointer (some ⟨b, 0, none⟩), .int .i64 n] w fun e w' => ∃ A c L, e = .returned (.slice A L.length c) ∧ Exp l (cut 0 n) L ∧ RdI w' A (ints L) ∧ (∀ k, blk A = some k → w.heap.size ≤ k) ∧
      CS w' 47 b (later now (cut 0 n)) (l.map (· - cut 0 n)) ∧ Only (fun k => k = b) w w' := by
  have cc := cutR_calls n 0 1073741824 (by decide) w
  rw [cut_int (lo := 0) (by decide) (by decide) n] at cc
  have hNle := cut_le 0 n
  generalize cut 0 n = N at *
  have hll := Lib.hid h.1
  have c0 := h.now_
  have z0 := h.frozen 0
  have hnow := h.2.2.1
  have hw32 : IntKind.u32.wrap (N : Int) = (N : Int) := by rw [IntKind.wrap_u32]; omega
  obtain ⟨t, ht⟩ : ∃ t, t = later now N := ⟨_, rfl⟩
  have hadd : IntKind.u32.wrap ((now : Int) + (N : Int)) = (t : Int) := by rw [IntKind.wrap_u32, ht]; unfold later; omega
  have htl : t < 4294967296 := by rw [ht]; unfold later; omega
  rw [← ht]
  clear ht
  obtain ⟨w1, hw1⟩ : ∃ w1, w.setCell ⟨b, 0, none⟩ (.int .u32 (t : Int)) = w1 := ⟨_, rfl⟩
  have H1 : Aside (RP w w1 b t l none 0 []) := by
    rw [← hw1]
    exact ⟨h.tick htl, IOwn.nil _ _, only_put (Only.refl _ w) _ _, h.lt⟩
  clear h
  go_enter Try.func16, Try.ntmps16
  go_wp2_with fail
  refine cc.mono ?_
  rintro e w' ⟨rfl, rfl⟩
  clear cc
  go_wp2_with fail
  clear c0 z0 hw32 hadd hnow htl hw1
  go_loopg [5] 40 (fun kx s5 wr => ∃ (A : Option Addr) (c k : Nat) (l' : List Nat) (L : List (Fin 32)), s5 = .slice A k c ∧ Aside (k = L.length) ∧ 33 - k ≤ kx ∧ k ≤ 32 ∧ Aside (RP w' wr b t l' A c L) ∧ Aside (Part l l' N L))
  case atStart => exact ⟨none, 0, 0, l, [], rfl, rfl, by omega, by omega, H1, Part.nil l N⟩
  case round =>
    clear H1
    obtain ⟨A, c, k, l', L, rfl, HKL, hkx, hk32, HR, HP⟩ := hrel
    go_wp2_with fail
    go_loopg [6, 7] 32 (fun kx s6 s7 wr2 => ∃ (i : Nat) (kk : Int), s6 = .int .i64 kk ∧ s7 = .int .i64 i ∧ i ≤ 32 ∧ 32 - i ≤ kx ∧ -1 ≤ kk ∧ kk < 32 ∧ Aside (RP w' wr2 b t l' A c L) ∧ Aside (Found l' N i kk))
    case atStart => exact ⟨0, -1, rfl, rfl, by omega, by omega, by omega, by omega, HR, Found.zero l' N⟩
    case round =>
      clear HR
      obtain ⟨i, kk, rfl, rfl, hi, hkx2, hk1, hk2, HR, HF⟩ := hrel
      by_cases hlt : i < 32
      · have hltz : (i : Int) < 32 := by omega
        have ci := HR.out.1.at_ hlt
        have XL := HR.out.1.le i
        obtain ⟨x, hx⟩ : ∃ x, x = key l' ⟨i, hlt⟩ := ⟨_, rfl⟩
        have hx' : l'.getD i 0 = x := hx.symm
        rw [hx'] at ci XL
        have HX : Aside (x = key l' ⟨i, hlt⟩) := hx
        clear hx hx'
        by_cases hx0 : 0 < x
        · have b0 : (0 : Int) < (x : Int) := by omega
          have d0 : decide ((x : Int) > 0) = true := decide_eq_true b0
          by_cases hxn : x ≤ N
          · have b1 : (x : Int) ≤ (N : Int) := by omega
            have d1 : decide ((x : Int) ≤ (N : Int)) = true := decide_eq_true b1
            have hdue : due l' N ⟨i, hlt⟩ := ⟨by rw [← HX.out]; exact hx0, by rw [← HX.out]; exact hxn⟩
            have HD : Aside (due l' N ⟨i, hlt⟩) := hdue
            clear hdue
            by_cases hkn : kk < 0
            · obtain rfl : kk = -1 := by omega
              go_wp2_with fail
              go_quiet (fail)
              have R2 : Aside (RP w' (World.drewN wr nq) b t l' A c L) := HR.out.drewN nq
              have F2 : Aside (Found l' N (i + 1) ((i : Int))) := HF.out.first hlt HD.out
              clear HR HF ci
              generalize World.drewN wr nq = w2 at R2 ⊢
              go_wp2
              go_roundg (32 - (i + 1))
              case measure => omega
              case rel => exact ⟨i + 1, (i : Int), by first | rfl | go_num, by go_num, by omega, Nat.le_refl _, by omega, by omega, R2, F2⟩
            · obtain ⟨y, hy⟩ : ∃ y : Fin 32, kk = ((y.val : Nat) : Int) := ⟨⟨kk.toNat, by omega⟩, by simp; omega⟩
              have hylt := y.isLt
              have cy := HR.out.1.at_ hylt
              obtain ⟨z, hz⟩ : ∃ z, z = key l' y := ⟨_, rfl⟩
              have hz' : l'.getD y.val 0 = z := hz.symm
              rw [hz'] at cy
              have HZ : Aside (z = key l' y) := hz
              have HF' : Aside (Found l' N i ((y.val : Nat) : Int)) := by rw [← hy]; exact HF.out
              clear hz hz' HF
              obtain ⟨j, hj⟩ : ∃ j : Nat, j = y.val := ⟨_, rfl⟩
              rw [← hj] at hylt cy HF' hy
              have HJ : Aside (j = y.val) := hj
              clear hj
              subst hy
              have bj : (j : Int) < 32 := by omega
              have e0 : decide ((j : Int) < 0) = false := decide_eq_false hkn
              have HF := HF'
              clear HF'
              by_cases hxz : x < z
              · have b2 : (x : Int) < (z : Int) := by omega
                have d2 : decide ((x : Int) < (z : Int)) = true := decide_eq_true b2
                go_wp2_with fail
                go_quiet (fail)
                have R2 : Aside (RP w' (World.drewN wr nq) b t l' A c L) := HR.out.drewN nq
                have F2 : Aside (Found l' N (i + 1) ((i : Int))) := by have hf := HF.out; rw [HJ.out] at hf; exact hf.less hlt HD.out (by rw [← HX.out, ← HZ.out]; exact hxz)
                clear HR HF ci cy
                generalize World.drewN wr nq = w2 at R2 ⊢
                go_wp2
                go_roundg (32 - (i + 1))
                case measure => omega
                case rel => exact ⟨i + 1, (i : Int), by first | rfl | go_num, by go_num, by omega, Nat.le_refl _, by omega, by omega, R2, F2⟩
              · have b2 : ¬ (x : Int) < (z : Int) := by omega
                have d2 : decide ((x : Int) < (z : Int)) = false := decide_eq_false b2
                go_wp2_with fail
                go_quiet (fail)
                have R2 : Aside (RP w' (World.drewN wr nq) b t l' A c L) := HR.out.drewN nq
                have F2 : Aside (Found l' N (i + 1) ((j : Int))) := by have hf := HF.out; rw [HJ.out] at hf ⊢; exact hf.more hlt (by rw [← HX.out, ← HZ.out]; exact hxz)
                clear HR HF ci cy
                generalize World.drewN wr nq = w2 at R2 ⊢
                go_wp2
                go_roundg (32 - (i + 1))
                case measure => omega
                case rel => exact ⟨i + 1, (j : Int), by first | rfl | go_num, by go_num, by omega, Nat.le_refl _, by omega, by omega, R2, F2⟩
          · have b1 : ¬ (x : Int) ≤ (N : Int) := by omega
            have d1 : decide ((x : Int) ≤ (N : Int)) = false := decide_eq_false b1
            go_wp2_with fail
            go_quiet (fail)
            have R2 : Aside (RP w' (World.drewN wr nq) b t l' A c L) := HR.out.drewN nq
            have F2 : Aside (Found l' N (i + 1) (kk)) := HF.out.no hlt (fun hd => by have := hd.2; rw [← HX.out] at this; omega)
            clear HR HF ci
            generalize World.drewN wr nq = w2 at R2 ⊢
            go_wp2
            go_roundg (32 - (i + 1))
            case measure => omega
            case rel => exact ⟨i + 1, kk, by first | rfl | go_num, by go_num, by omega, Nat.le_refl _, by omega, by omega, R2, F2⟩
        · have b0 : ¬ (0 : Int) < (x : Int) := by omega
          have d0 : decide ((x : Int) > 0) = false := decide_eq_false b0
          go_wp2_with fail
          go_quiet (fail)
          have R2 : Aside (RP w' (World.drewN wr nq) b t l' A c L) := HR.out.drewN nq
          have F2 : Aside (Found l' N (i + 1) (kk)) := HF.out.no hlt (fun hd => by have := hd.1; rw [← HX.out] at this; omega)
          clear HR HF ci
          generalize World.drewN wr nq = w2 at R2 ⊢
          go_wp2
          go_roundg (32 - (i + 1))
          case measure => omega
          case rel => exact ⟨i + 1, kk, by first | rfl | go_num, by go_num, by omega, Nat.le_refl _, by omega, by omega, R2, F2⟩
      · obtain rfl : i = 32 := by omega
        by_cases hkn : kk < 0
        · obtain rfl : kk = -1 := by omega
          have E : Aside (Exp l N L) := HP.out.done (fun x => by
            rcases HF.out with ⟨_, h2⟩ | ⟨y, h1, _⟩
            · exact h2 x x.isLt
            · omega)
          have ER : Aside (l'.map (· - N) = l.map (· - N)) := HP.out.rest hll.out HR.out.1.1
          have H32 : Aside (l'.length = 32) := HR.out.1.1
          have ND : Aside (∀ x, ¬ due l' N x) := fun x => by
            rcases HF.out with ⟨_, h2⟩ | ⟨y, h1, _⟩
            · exact h2 x x.isLt
            · omega
          clear HP HF
          go_wp2_with fail
          go_loopg [8] 32 (fun kx s8 wr3 => ∃ (i : Nat), s8 = .int .i64 i ∧ i ≤ 32 ∧ 32 - i ≤ kx ∧ Aside (RP w' wr3 b t (less l' N i) A c L))
          case atStart => exact ⟨0, rfl, by omega, by omega, (by rw [less_zero]; exact HR.out)⟩
          case round =>
            clear HR
            obtain ⟨i, rfl, hi3, hkx3, HR⟩ := hrel
            by_cases hlt : i < 32
            · have hltz : (i : Int) < 32 := by omega
              have ci := HR.out.1.at_ hlt
              have zi := HR.out.1.frozen (1 + i)
              rw [less_at (by rw [H32.out]; exact hlt)] at ci
              have hnd := ND.out ⟨i, hlt⟩
              have XL : l'.getD i 0 ≤ 1073741824 := by have := HR.out.1.le i; rw [less_at (by rw [H32.out]; exact hlt)] at this; exact this
              by_cases hx0 : 0 < l'.getD i 0
              · have hxn : N < l'.getD i 0 := by
                  apply Nat.lt_of_not_le
                  intro hle
                  exact hnd ⟨hx0, hle⟩
                have R2 : Aside (RP w' (World.setCell wr.drew ⟨b, 1 + i, none⟩ (.int .i64 ((l'.getD i 0 - N : Nat) : Int))) b t (less l' N (i + 1)) A c L) := by
                  rw [← less_step (by rw [H32.out]; exact hlt)]
                  exact RP.set (HR.out.drewN 1) hlt (by omega)
                clear HR hnd
                generalize l'.getD i 0 = x at *
                have b0 : (0 : Int) < (x : Int) := by omega
                have hs : (x : Int) - (N : Int) = ((x - N : Nat) : Int) := by omega
                have hs2 : IntKind.i64.wrap ((x : Int) - (N : Int)) = ((x - N : Nat) : Int) := by rw [IntKind.wrap_i64]; omega
                have hs3 : IntKind.i64.wrap ((x - N : Nat) : Int) = ((x - N : Nat) : Int) := by rw [IntKind.wrap_i64]; omega
                go_wp2_with fail
                refine wp_region_still_tail 13 (by kernel_rfl) (by kernel_rfl) ?_
                simp only [List.take_succ_cons, List.take_zero, List.drop_succ_cons, List.drop_zero]
                repeat still_step
                refine wpStill_nil ?_
                go_wp2
                go_roundg (32 - (i + 1))
                case measure => omega
                case rel => exact ⟨i + 1, by go_num, by omega, Nat.le_refl _, R2⟩
              · have R2 : Aside (RP w' wr b t (less l' N (i + 1)) A c L) := by
                  rw [less_skip (by rw [H32.out]; exact hlt) (by omega)]
                  exact HR.out
                clear HR hnd
                generalize l'.getD i 0 = x at *
                have b0 : ¬ (0 : Int) < (x : Int) := by omega
                go_wp2
                go_roundg (32 - (i + 1))
                case measure => omega
                case rel => exact ⟨i + 1, by go_num, by omega, Nat.le_refl _, R2⟩
            · obtain rfl : i = 32 := by omega
              go_wp2
              go_ret
              have hr := HR.out
              rw [less_all (by rw [H32.out]; exact Nat.le_refl _), ER.out] at hr
              refine ⟨A, c, L, by rw [← HKL.out]; rfl, E.out, rdI_of_own hr.2.1, fun q hq => ?_, hr.1, hr.2.2.1⟩
              by_cases hl : L = []
              · rw [(hr.2.1.2 hl).1] at hq
                cases hq
              · obtain ⟨g, rfl, hg, _⟩ := hr.2.1.parts hl
                injection hq with hq
                have hq' : g = q := hq
                omega
        · obtain ⟨y, hy⟩ : ∃ y : Fin 32, kk = ((y.val : Nat) : Int) := ⟨⟨kk.toNat, by omega⟩, by simp; omega⟩
          subst hy
          have hF : due l' N y ∧ ∀ x, due l' N x → rank l' y ≤ rank l' x := by
            rcases HF.out with ⟨h1, _⟩ | ⟨z, h1, _, h3, h4⟩
            · omega
            · obtain rfl : y = z := Fin.ext (by omega)
              exact ⟨h3, fun x hx => h4 x x.isLt hx⟩
          have P2 : Aside (Part l (l'.set y.val 0) N (L ++ [y])) := HP.out.step HR.out.1.1 hF.1 hF.2
          obtain ⟨A2, c2, v2, run, R2⟩ := HR.out.app (by have := HP.out.len; omega) y
          rw [← HKL.out] at run
          have R3 : Aside (RP w' (v2.setCell ⟨b, 1 + y.val, none⟩ (.int .i64 0)) b t (l'.set y.val 0) A2 c2 (L ++ [y])) := R2.set y.isLt (by decide)
          have K2 : Aside (k + 1 = (L ++ [y]).length) := by rw [List.length_append, ← HKL.out]; rfl
          have HL2 : k + 1 ≤ 32 := by have := P2.out.len; rw [← K2.out] at this; exact this
          have cy := R2.1.at_ y.isLt
          have zy := R2.1.frozen (1 + y.val)
          generalize l'.getD y.val 0 = z at cy
          unfold eid at run
          clear HP HF HR R2 hF HKL
          have hyl := y.isLt
          generalize y.val = j at *
          have bj : (j : Int) < 32 := by omega
          go_wp2_with (at_builtin; refine Lib.wpList_append_run _ rfl _ _ _ _ rfl _ _ rfl rfl _ _ (run _) ?_)
          go_roundg (33 - (k + 1))
          case measure => omega
          case rel => exact ⟨A2, c2, k + 1, _, _, rfl, K2, by omega, HL2, R3, P2⟩
end Go.Proofs.Ytfikllghajhigaa

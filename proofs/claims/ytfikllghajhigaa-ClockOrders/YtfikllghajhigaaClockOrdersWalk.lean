/- ClockOrders: the law's walk. No condition. -/
import Derived.Test.YtfikllghajhigaaClkOrd
import Derived.BigQuiet
import Derived.Deep.LoopGhost
namespace Go.Proofs.Ytfikllghajhigaa
open Go.Proofs Go.RowKit Go.Lib Go.Sort
set_option linter.unusedVariables false

theorem cut_n {a : Nat} (h' : a ≤ 1073741824) : cut 0 (a : Int) = a := by unfold cut; omega
theorem map_zero (l : List Nat) : l.map (· - 0) = l := by simp
theorem map_less (l : List Nat) (t : Nat) : (l.map (· - t)).map (· - 1) = l.map (· - (t + 1)) := by
  rw [List.map_map]
  refine List.map_congr_left fun x _ => ?_
  simp only [Function.comp]
  omega
theorem rdO {v : World} {base : Nat} {A : Option Addr} {c : Nat} {L : List (Fin 32)} (h : IOwn v base A c L) : RdI v A (ints L) := fun hne => by
  have hl : L ≠ [] := by rintro rfl; exact hne rfl
  obtain ⟨g, rfl, _, _, _, hc, _⟩ := h.parts hl
  refine ⟨g, 0, rfl, fun j hj => ?_⟩
  have hj' : j < L.length := by simpa [ints] using hj
  rw [hc j hj', ints_getD L j hj']
  rfl
/-- what the law asks of each timer that runs out -/
theorem ord_at {l : List Nat} {zs : List Int} {len N : Nat} {L : List (Fin 32)} (hP : Pre zs len l) (hE : Exp l N L) {x : Fin 32} (hx : x ∈ L) : x.val < len ∧ val zs x.val < N ∧ key l x = 1 + val zs x.val := by
  have hd := (hE.2 x).1 hx
  have hk := hP x
  unfold due at hd
  by_cases h : x.val < len
  · rw [if_pos h] at hk
    refine ⟨h, by omega, hk⟩
  · rw [if_neg h] at hk
    omega
theorem ord_two {l : List Nat} {zs : List Int} {len N : Nat} {L : List (Fin 32)} (hP : Pre zs len l) (hE : Exp l N L) {i : Nat} (hi : i + 1 < L.length) :
    val zs (L[i]).val < val zs (L[i + 1]).val ∨ (val zs (L[i]).val = val zs (L[i + 1]).val ∧ (L[i]).val < (L[i + 1]).val) := by
  have h1 := ord_at hP hE (List.getElem_mem (show i < L.length by omega))
  have h2 := ord_at hP hE (List.getElem_mem hi)
  have h3 := List.pairwise_iff_getElem.1 hE.1 i (i + 1) (by omega) hi (Nat.lt_succ_self _)
  have := (L[i]).isLt
  have := (L[i + 1]).isLt
  unfold rank at h3
  rw [h1.2.2, h2.2.2] at h3
  omega

set_option maxHeartbeats 4000000 in
set_option maxRecDepth 100000 in
theorem ClockOrders_main (A0 : Option Addr) (cap : Nat) (zs : List Int) (N : Nat) (hl : zs.length ≤ 32) (hN : N ≤ 300) (w : World) (hr : RdI w A0 zs) :
    Calls Try.prog 5 #[.slice A0 zs.length cap, .int .i64 (N : Int)] w fun e w' => e = .returned (.bool true) ∧ Below w.heap.size w w' := by
  have al := alive_calls w
  have HR := Lib.hid hr
  have g1 : ¬ 32 < (zs.length : Int) := by omega
  have g3 : ¬ 300 < (N : Int) := by omega
  obtain ⟨len, hlen⟩ : ∃ n, n = zs.length := ⟨_, rfl⟩
  rw [← hlen] at g1 hl ⊢
  have HL := Lib.hid hlen
  clear hlen hr
  go_enter Try.func5, Try.ntmps5
  go_wp2_with fail
  refine al.mono ?_
  rintro e W ⟨rfl, bel⟩
  clear al
  obtain ⟨w2, hw2⟩ : ∃ w2, (W.alloc (.cells (cc 0 nought) 45)).alloc (.cells (cc 0 nought) 45) = w2 := ⟨_, rfl⟩
  have hF : Fam w w2 W.heap.size [(45, 0, nought), (45, 0, nought)] := by rw [← hw2]; exact Fam.start2 bel (by decide) (by decide) _ _
  have c1 := new_calls 0 W
  have c2 := new_calls 0 (W.alloc (.cells (cc 0 nought) 45))
  rw [hw2, show (W.alloc (.cells (cc 0 nought) 45)).heap.size = W.heap.size + 1 by simp] at c2
  obtain ⟨p, hp⟩ : ∃ p, p = W.heap.size := ⟨_, rfl⟩
  rw [← hp] at c1 c2 hF
  have H0 : Aside (Fam w w2 p [(45, 0, nought), (45, 0, nought)]) := hF
  clear hF hw2 hp
  go_wp2_with fail
  refine c1.mono ?_
  rintro e w' ⟨rfl, rfl⟩
  go_wp2_with fail
  refine c2.mono ?_
  rintro e w' ⟨rfl, rfl⟩
  clear c1 c2 bel
  go_wp2_with fail
  go_loopg [8] len (fun kx s8 wr => ∃ (i : Nat) (l : List Nat), s8 = .int .i64 i ∧ i ≤ len ∧ len - i ≤ kx ∧ Aside (Fam w wr p [(45, 0, l), (45, 0, l)]) ∧ Aside (Pre zs i l))
  case atStart => exact ⟨0, nought, rfl, by omega, by omega, H0, Pre.zero zs⟩
  case round =>
    clear H0
    obtain ⟨i, l, rfl, hil, hkx, HT, HP⟩ := hrel
    by_cases hlt : i < len
    · have hltz : (i : Int) < (len : Int) := by omega
      obtain ⟨b, off, rfl, hbw, k0⟩ := RdI.at_ (k := i) HR.out (by rw [← HL.out]; exact hlt)
      have q0 := (HT.out.bel.cell (p := ⟨b, off + i, none⟩) hbw).trans k0
      have hb := i64_and255 (zs.getD i 0)
      rw [vals_int] at hb
      have hv := val_lt zs i
      have P2 : Aside (Pre zs (i + 1) (startL l (i : Int) ((1 + val zs i : Nat) : Int))) := HP.out.step (HT.out.1 0 _ rfl).1 (by omega)
      generalize zs.getD i 0 = z at q0 hb
      have hT := HT.out
      clear k0 hbw HT HP
      generalize val zs i = x at *
      have ex : (1 : Int) + (x : Int) = ((1 + x : Nat) : Int) := by omega
      have C1 : Calls Try.prog 10 #[.pointer (some ⟨p, 0, none⟩), .int .i64 (i : Int), .int .i64 ((1 + x : Nat) : Int)] wr fun e v' => e = .returned (.bool (isT (i : Int))) ∧ Fam w v' p [(45, 0, startL l (i : Int) ((1 + x : Nat) : Int)), (45, 0, l)] := Fam.start (i := 0) hT rfl _ _
      clear hT
      obtain ⟨y, hy⟩ : ∃ y, y = 1 + x := ⟨_, rfl⟩
      rw [← hy] at C1 P2 ex
      clear hy
      go_wp2_with fail
      refine C1.mono ?_
      rintro e v1 ⟨rfl, hT1⟩
      have C2 : Calls Try.prog 10 #[.pointer (some ⟨p + 1, 0, none⟩), .int .i64 (i : Int), .int .i64 (y : Int)] v1 fun e v' => e = .returned (.bool (isT (i : Int))) ∧ Fam w v' p [(45, 0, startL l (i : Int) (y : Int)), (45, 0, startL l (i : Int) (y : Int))] := Fam.start (i := 1) hT1 rfl _ _
      clear C1 hT1
      go_wp2_with fail
      refine C2.mono ?_
      rintro e v2 ⟨rfl, hT2⟩
      have FIN : Aside (Fam w v2 p [(45, 0, startL l (i : Int) (y : Int)), (45, 0, startL l (i : Int) (y : Int))]) := hT2
      clear C2 hT2
      go_wp2
      go_roundg (len - (i + 1))
      case measure => omega
      case rel => exact ⟨i + 1, _, by go_num, by omega, Nat.le_refl _, FIN, P2⟩
    · have hltz : ¬ (i : Int) < (len : Int) := by omega
      obtain rfl : len = i := by omega
      have C := pass_calls (HT.out.1 0 _ rfl) (N : Int)
      rw [cut_n (by omega), Nat.add_zero] at C
      simp only at C
      go_wp2_with fail
      refine C.mono ?_
      rintro e v ⟨Aall, ca, L, rfl, hE, hR, hA, -, on⟩
      have hO : OS w v (p + 1) v.heap.size 0 l Aall L none 0 [] := by
        have hT := HT.out
        have hlen := hT.2.2.2
        have hwp := hT.2.2.1
        have hs := on.size
        simp only [List.length_cons, List.length_nil] at hlen
        refine ⟨(hT.1 1 _ rfl).only on (by omega), IOwn.nil _ _, hR, fun hne k hk => ?_, by omega, Nat.le_refl _, hT.2.1.trans (on.below (fun k hk => by omega) hT.2.1.size), by omega⟩
        have := hA k hk
        obtain ⟨b, off, e, hlt', _⟩ := hR.at_ (k := 0) (by simp [ints]; exact List.length_pos_iff.2 hne)
        rw [e] at hk
        injection hk with hk
        have hk' : b = k := hk
        omega
      have H2 : Aside _ := hO
      have HE : Aside _ := hE
      obtain ⟨ka, hka⟩ : ∃ k, k = L.length := ⟨_, rfl⟩
      have HKA : Aside (ka = L.length) := hka
      have hka32 : ka ≤ 32 := by rw [hka]; exact hE.length
      obtain ⟨base, hbase⟩ : ∃ k, k = v.heap.size := ⟨_, rfl⟩
      rw [← hbase] at H2
      rw [← hka]
      clear hka hbase hO hE hR hA on C HT
      go_wp2_with fail
      go_loopg [11, 12] N (fun kx s11 s12 wr2 => ∃ (t : Nat) (A : Option Addr) (c k nb : Nat) (M : List (Fin 32)), s11 = .slice A k c ∧ s12 = .int .i64 t ∧ t ≤ N ∧ N - t ≤ kx ∧ k ≤ 32 ∧ Aside (k = M.length) ∧ Aside (OS w wr2 (p + 1) base nb (l.map (· - t)) Aall L A c M) ∧ Aside (Exp l t M))
      case atStart => exact ⟨0, none, 0, 0, 0, [], rfl, rfl, by omega, by omega, by omega, rfl, (by rw [map_zero]; exact H2.out), Exp.zero l⟩
      case round =>
        clear H2
        obtain ⟨t, A, c, k, nb, M, rfl, rfl, htN, hkx2, hk32, HKM, HO, HM⟩ := hrel
        by_cases htl : t < N
        · have htz : (t : Int) < (N : Int) := by omega
          have C := HO.out.pass
          rw [map_less] at C
          go_wp2_with fail
          refine C.mono ?_
          rintro e v1 ⟨B, c', K, rfl, hEK, hRK, hOK⟩
          have hM2 := HM.out.more hEK
          have hlen2 := hM2.length
          rw [List.length_append] at hlen2
          obtain ⟨A2, d2, v2, run, hO2⟩ := hOK.apps c' hRK (by omega)
          rw [← HKM.out] at run
          have HO2 : Aside (OS w v2 (p + 1) base (later nb 1) (l.map (· - (t + 1))) Aall L A2 d2 (M ++ K)) := hO2
          have HM2 : Aside (Exp l (t + 1) (M ++ K)) := hM2
          have HK2 : Aside (k + K.length = (M ++ K).length) := by rw [List.length_append, ← HKM.out]; rfl
          have hk2 : k + K.length ≤ 32 := by rw [HKM.out]; exact hlen2
          clear C hEK hRK hOK hM2 hO2 hlen2 HO HM HKM
          generalize K.length = kq at *
          go_wp2_with (at_builtin; refine Lib.wpList_append_run _ rfl _ _ _ _ rfl _ _ rfl rfl _ _ (run _) ?_)
          go_roundg (N - (t + 1))
          case measure => omega
          case rel => exact ⟨t + 1, A2, d2, k + kq, later nb 1, M ++ K, rfl, by go_num, by omega, Nat.le_refl _, hk2, HK2, HO2, HM2⟩
        · have htz : ¬ (t : Int) < (N : Int) := by omega
          obtain rfl : N = t := by omega
          obtain ⟨v0, hv0⟩ : ∃ z, z = wr := ⟨_, rfl⟩
          rw [← hv0] at HO ⊢
          have HV : Aside (v0 = wr) := hv0
          clear hv0
          obtain rfl : M = L := HM.out.unique HE.out
          have hkk : k = ka := by rw [HKM.out, HKA.out]
          subst hkk
          have C := same_calls (v := v0) (q := 0) (A := Aall) (B := A) (L := M) ca c ⟨HO.out.rd, fun _ _ => Nat.zero_le _⟩ ⟨rdO HO.out.own, fun _ _ => Nat.zero_le _⟩ (by rw [← HKM.out]; omega)
          rw [← HKM.out] at C
          have RA : Aside (RdI v0 Aall (ints M)) := HO.out.rd
          have RZ : Aside (RdI v0 A0 zs) := HR.out.below HO.out.bel
          have BB : Aside (Below w.heap.size w v0) := HO.out.bel
          clear HO HM
          go_wp2_with fail
          refine C.mono ?_
          rintro e v3 ⟨rfl, m3, rfl⟩
          clear C
          go_wp2_with fail
          go_loopg [13] k (fun kx s13 wx => ∃ (j m : Nat), s13 = .int .i64 j ∧ j ≤ k ∧ k - j ≤ kx ∧ Aside (wx = v0.drewN m))
          case atStart => exact ⟨0, m3, rfl, by omega, by omega, rfl⟩
          case round =>
            obtain ⟨j, m, rfl, hjk, hkx3, HW⟩ := hrel
            by_cases hjl : j < k
            · have hjz : (j : Int) < (k : Int) := by omega
              have hjM : j < M.length := by rw [← HKM.out]; exact hjl
              have oa := ord_at HP.out HE.out (List.getElem_mem hjM)
              obtain ⟨g, o, eA, _, ga⟩ := RdI.at_ (k := j) RA.out (by simp [ints]; exact hjM)
              rw [ints_getD M j hjM] at ga
              obtain ⟨b, off, eZ, _, gz⟩ := RdI.at_ (k := (M[j]).val) RZ.out (by rw [← HL.out]; exact oa.1)
              have hb := i64_and255 (zs.getD (M[j]).val 0)
              rw [vals_int] at hb
              obtain ⟨x, hx⟩ : ∃ x, x = (M[j]).val := ⟨_, rfl⟩
              rw [← hx] at ga gz hb oa
              have ga2 : World.cell? wr ⟨g, o + j, none⟩ = some (.int .i64 (x : Int)) := by rw [HW.out]; exact ga
              have gz2 : World.cell? wr ⟨b, off + x, none⟩ = some (.int .i64 (zs.getD x 0)) := by rw [HW.out]; exact gz
              have x1 : ¬ (x : Int) < 0 := by omega
              have x2 : ¬ (len : Int) ≤ (x : Int) := by omega
              have x2' : (x : Int) < (len : Int) := by omega
              have x3 : ¬ (N : Int) ≤ ((val zs x : Nat) : Int) := by omega
              have hkM : k = M.length := HKM.out
              by_cases hj0 : j = 0
              · subst eA
                subst eZ
                have y1 : ¬ (0 : Int) < (j : Int) := by omega
                have d1 : decide ((j : Int) > 0) = false := decide_eq_false y1
                have y0 : ¬ 0 < j := by omega
                have d0 : decide (0 < j) = false := decide_eq_false y0
                generalize zs.getD x 0 = z at gz2 hb
                generalize val zs x = vx at *
                clear hx ga gz oa hkM hj0
                go_wp2_with fail
                go_quiet (fail)
                have HW2 : Aside (∃ m', World.drewN wr nq = v0.drewN m') := ⟨m + nq, by rw [HW.out]; simp [World.drewN, Nat.add_assoc]⟩
                generalize World.drewN wr nq = w9 at HW2 ⊢
                go_wp2
                go_roundg (k - (j + 1))
                case measure => omega
                case rel => exact ⟨j + 1, _, by go_num, by omega, Nat.le_refl _, HW2.out.choose_spec⟩
              · obtain ⟨jN, hjN⟩ : ∃ q, q + 1 = j := ⟨j - 1, by omega⟩
                have hjM' : jN < M.length := by omega
                have oa' := ord_at HP.out HE.out (List.getElem_mem hjM')
                have ot := ord_two HP.out HE.out (i := jN) (by omega)
                obtain ⟨g', o', eA', _, ga'⟩ := RdI.at_ (k := jN) RA.out (by simp [ints]; exact hjM')
                rw [ints_getD M jN hjM'] at ga'
                obtain ⟨b', off', eZ', _, gz'⟩ := RdI.at_ (k := (M[jN]).val) RZ.out (by rw [← HL.out]; exact oa'.1)
                have hb' := i64_and255 (zs.getD (M[jN]).val 0)
                rw [vals_int] at hb'
                obtain ⟨x', hx'⟩ : ∃ x, x = (M[jN]).val := ⟨_, rfl⟩
                have hMM : (M[jN + 1]).val = x := by rw [hx]; congr 2
                rw [hMM, ← hx'] at ot
                rw [← hx'] at ga' gz' hb' oa'
                rw [eA] at eA'
                injection eA' with eA'
                injection eA' with eA1 eA2
                subst eA1 eA2
                rw [eZ] at eZ'
                injection eZ' with eZ'
                injection eZ' with eZ1 eZ2
                subst eZ1 eZ2
                subst eA
                subst eZ
                have ga3 : World.cell? wr ⟨g, o + jN, none⟩ = some (.int .i64 (x' : Int)) := by rw [HW.out]; exact ga'
                have gz3 : World.cell? wr ⟨b, off + x', none⟩ = some (.int .i64 (zs.getD x' 0)) := by rw [HW.out]; exact gz'
                have zj : (j : Int) = (jN : Int) + 1 := by omega
                have y1 : (0 : Int) < (jN : Int) + 1 := by omega
                have d1 : decide ((jN : Int) + 1 > 0) = true := decide_eq_true y1
                have y2 : (jN : Int) + 1 < (k : Int) := by omega
                have y3 : (jN : Int) < (k : Int) := by omega
                have y4 : ((jN : Int) + 1).toNat = j := by omega
                have y5 : (0 : Int) ≤ (jN : Int) + 1 := by omega
                have r5 : IntKind.i64.wrap ((jN : Int) + 1) = (jN : Int) + 1 := by rw [IntKind.wrap_i64]; omega
                have r4 : IntKind.i64.wrap (jN : Int) = (jN : Int) := by rw [IntKind.wrap_i64]; omega
                have x2'' : (x' : Int) < (len : Int) := by omega
                generalize zs.getD x 0 = z at gz2 hb
                generalize zs.getD x' 0 = z' at gz3 hb'
                generalize val zs x = vx at *
                generalize val zs x' = vx' at *
                clear hx hx' hMM ga gz ga' gz' oa oa' hkM hj0 hjM hjM'
                rcases ot with ot | ⟨ot1, ot2⟩
                · have e1 : ¬ (vx : Int) < (vx' : Int) := by omega
                  have e2 : decide ((vx' : Int) > (vx : Int)) = false := decide_eq_false (by omega)
                  have e3 : ¬ (vx' : Int) = (vx : Int) := by omega
                  have f1 : ¬ vx < vx' := by omega
                  have f2 : decide (vx < vx') = false := decide_eq_false f1
                  have f3 : decide ((vx : Int) < (vx' : Int)) = false := decide_eq_false e1
                  have f4 : ¬ vx' = vx := by omega
                  have f5 : (vx' == vx) = false := by rw [beq_eq_false_iff_ne]; exact f4
                  have e4 : ((vx' : Int) == (vx : Int)) = false := by rw [beq_eq_false_iff_ne]; exact e3
                  go_wp2_with fail
                  go_quiet (fail)
                  have HW2 : Aside (∃ m', World.drewN wr nq = v0.drewN m') := ⟨m + nq, by rw [HW.out]; simp [World.drewN, Nat.add_assoc]⟩
                  generalize World.drewN wr nq = w9 at HW2 ⊢
                  go_wp2
                  go_roundg (k - (j + 1))
                  case measure => omega
                  case rel => exact ⟨j + 1, _, by go_num, by omega, Nat.le_refl _, HW2.out.choose_spec⟩
                · subst ot1
                  have e1 : ¬ (vx' : Int) < (vx' : Int) := by omega
                  have e2 : decide ((vx' : Int) > (vx' : Int)) = false := decide_eq_false (by omega)
                  have e4 : ((vx' : Int) == (vx' : Int)) = true := by simp
                  have e5 : ¬ (x : Int) ≤ (x' : Int) := by omega
                  have e6 : decide ((x' : Int) ≥ (x : Int)) = false := decide_eq_false (by omega)
                  go_wp2_with fail
                  go_quiet (fail)
                  have HW2 : Aside (∃ m', World.drewN wr nq = v0.drewN m') := ⟨m + nq, by rw [HW.out]; simp [World.drewN, Nat.add_assoc]⟩
                  generalize World.drewN wr nq = w9 at HW2 ⊢
                  go_wp2
                  go_roundg (k - (j + 1))
                  case measure => omega
                  case rel => exact ⟨j + 1, _, by go_num, by omega, Nat.le_refl _, HW2.out.choose_spec⟩
            · have hjz : ¬ (j : Int) < (k : Int) := by omega
              have FIN : Aside (Below w.heap.size w wr) := by rw [HW.out]; exact ⟨BB.out.os, BB.out.tape, BB.out.output, BB.out.size, BB.out.block⟩
              go_wp2
              go_ret
              exact ⟨rfl, FIN.out⟩
end Go.Proofs.Ytfikllghajhigaa

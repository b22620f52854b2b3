/- The law ArqRejects, walked. No condition. -/
import Derived.Test.YtdidmpimlodffaaDuoRej
import Derived.Test.YtdidmpimlodffaaRejPlain
import Derived.Test.YtdidmpimlodffaaActRowsR
import Derived.Test.YtdidmpimlodffaaG14
import Derived.Deep.LoopGhost
namespace Go.Proofs.Ytdidmpimlodffaa
open Go.RowKit
set_option linter.unusedVariables false

theorem AqOne.grown {w v v' : World} {H : Nat → Prop} {b : Nat} {s : Aq} (h : AqOne H w v b s) (hb : Below v.heap.size v v') : AqOne (fun k => H k ∨ (v.heap.size ≤ k ∧ k < v'.heap.size)) w v' b s := by
  obtain ⟨F, h1, h2, h3, h4⟩ := h
  refine ⟨F, h1.below hb, fun k hk => ⟨(h2 k hk).1, fun e => e.elim (h2 k hk).2 (fun e => ?_)⟩, h3.trans (hb.mono h3.size), fun k hk => hk.elim (fun e => Nat.lt_of_lt_of_le (h4 k e) hb.size) (fun e => e.2)⟩
  have := h1.lt k hk
  omega
theorem newC_room' (c : Cf) : (Aq.newC c).Room := ⟨Nat.zero_le _, Nat.zero_le _, Nat.zero_le _, Nat.zero_le _, Nat.zero_le _, Nat.zero_le _⟩
theorem i64_and127 (x : Int) : bits .and .i64 x 127 = x % 128 := by
  rw [and_key, show ((127 : Int) % ((2 ^ 64 : Nat) : Int)).toNat = 2 ^ 7 - 1 by decide, Nat.and_two_pow_sub_one_eq_mod, IntKind.wrap_i64]
  omega
theorem laid_in (w : World) {n : Nat} (hn : n < 128) : laid w [0, 9, UInt8.ofNat (2 * n), 0] = w.alloc (.cells #[.int .u8 0, .int .u8 9, .int .u8 (2 * (n : Int)), .int .u8 0] 5) := by
  unfold laid bv
  show w.alloc (.cells #[.int .u8 0, .int .u8 9, .int .u8 (((UInt8.ofNat (2 * n)).toNat : Nat) : Int), .int .u8 0] 5) = _
  rw [UInt8.toNat_ofNat', show (2 * n) % 2 ^ 8 = 2 * n by omega]
  rfl
/-- what stands between two rounds -/
structure RejIn (s : Aq) (o : Od) (rj : Bool) (i : Nat) : Prop where
  rej : Rej s o rj
  os : s.os = []
  all : o.all ≤ i
  is : s.is.length ≤ 1
  sn : s.sn = 0
  ak : s.ak = 0
  lo : s.lo = 0
section
variable {w v v' : World} {H : Nat → Prop}
set_option maxRecDepth 20000 in
set_option maxHeartbeats 16000000 in
theorem ArqRejects_main (W : Nat) (h1 : 1 ≤ W) (h2 : W ≤ 16) (A : Option Addr) (cap : Nat) (ls : List ActP) (w : World) (hr : RdP w A ls) (hl : ls.length ≤ 60) :
    Calls Try.prog 9 #[.int .i64 (W : Int), .slice A ls.length cap] w fun e w' => e = .returned (.bool true) ∧ Below w.heap.size w w' := by
  have i1 : decide ((W : Int) < 1) = false := decide_eq_false (by omega)
  have i2 : decide ((16 : Int) < (W : Int)) = false := decide_eq_false (by omega)
  have i3 : decide ((60 : Int) < (ls.length : Int)) = false := decide_eq_false (by omega)
  have j1 : ¬ (W : Int) < 1 := by omega
  have j2 : ¬ (16 : Int) < (W : Int) := by omega
  have j3 : ¬ (60 : Int) < (ls.length : Int) := by omega
  obtain ⟨S, s1, s2, s3, s4, s5, s6, s7⟩ := rej_start (W : Int) 4 rfl
  have HS := Lib.hid (And.intro s2 (And.intro s3 (And.intro s4 (And.intro s5 (And.intro s6 s7)))))
  have NC := fun v => aqNew_calls (shapeC 128 W 4) v
  have NO := fun v => roNew_calls 128 (W : Int) v
  have s1 : (Aq.newC (shapeC 128 W 4)).input [0, 9, 111] = S := s1
  have HRD := Lib.hid hr
  generalize hL : ls.length = L at *
  have HL := Lib.hid hL
  clear hL hr s2 s3 s4 s5 s6 s7
  go_enter Try.func9, Try.ntmps9
  go_wp2_with fail
  refine (alive_calls w).mono ?_
  rintro e V ⟨rfl, hb⟩
  have HB := Lib.hid hb
  clear hb
  have SC := shape_calls 128 W 4 V
  go_wp2_with fail
  refine SC.mono ?_
  rintro e w1 ⟨rfl, be1⟩
  have HB1 := Lib.hid (HB.out.trans (be1.mono HB.out.size))
  clear SC HB be1
  go_wp2_with fail
  refine (NC _).mono ?_
  rintro e w2 hm
  obtain ⟨b, rfl, o1, -⟩ := AqOne.made (H := fun _ => False) hm HB1.out (fun _ h => h.elim)
  have IN := (o1.grown (laid_below w2 [0, 9, 111])).input' (newC_room' _) (some ⟨w2.heap.size, 0, none⟩) 3 [0, 9, 111] (laid_rd w2 _) (by decide) (Nat.le_refl _) (by decide) (fun i hi => .inr (by injection hi with hi; rw [← hi, laid_size]; exact ⟨Nat.le_refl _, Nat.lt_succ_self _⟩))
  rw [s1] at IN
  clear hm NC o1 HB1 s1
  go_wp2_with fail
  refine IN.mono ?_
  rintro e w3 ⟨rfl, o3, -⟩
  have o3 := Lib.hid (o3.less (G := fun _ => False) (fun _ h => h.elim))
  clear IN
  go_wp2_with fail
  refine (NO _).mono ?_
  rintro e w4 ⟨rfl, hw4⟩
  have D4 := Duo.start o3.out 128 (W : Int)
  rw [hw4] at D4
  have OC := D4.output
  clear D4 NO o3 hw4
  go_wp2_with fail
  refine OC.mono ?_
  rintro e w5 ⟨A5, c5, K5, rfl, -, D5⟩
  have H0 : Aside (∃ s o, Duo (fun _ => False) w w5 b w3.heap.size s o ∧ RejIn s o false 0) := ⟨S.output, Od.new 128 (W : Int), D5.less (fun _ h => h.elim), HS.out.1, rfl, Nat.le_refl 0, by show S.is.length ≤ 1; rw [HS.out.2.2.2.2.2]; exact Nat.le_refl _, HS.out.2.2.1, HS.out.2.2.2.1, HS.out.2.2.2.2.1⟩
  generalize w3.heap.size = pr at *
  clear OC D5 HS
  go_wp2_with fail
  go_loopg [8, 9] L (fun kx s8 s9 wr => ∃ (i : Nat) (rj : Bool), s9 = .int .i64 (i : Int) ∧ s8 = .bool rj ∧ i ≤ L ∧ L - i ≤ kx ∧ Aside (∃ s o, Duo (fun _ => False) w wr b pr s o ∧ RejIn s o rj i))
  case atStart => exact ⟨0, false, rfl, rfl, by omega, by omega, H0⟩
  case round =>
    clear H0
    obtain ⟨i, rj, rfl, rfl, hi, hkx, HO⟩ := hrel
    by_cases hiL : i < L
    · have g0 : (i : Int) < (L : Int) := by omega
      have g1 : (0 : Int) ≤ (i : Int) := by omega
      obtain ⟨s, o, D, R⟩ := HO.out
      obtain ⟨g, off, rfl, hgb, ha1, ha2, ha3, B, d, ha4, hrd, hld, hdm⟩ := HRD.out.at_ (j := i) (by rw [HL.out]; exact hiL)
      have k1 : wr.cell? ⟨g, off + i * 3 + 1, none⟩ = some (.int .i64 (ls.getD i ActP.zero).n) := (D.bel.cell (World.block_lt_of_cell? w _ ha2)).trans ha2
      have k2 : wr.cell? ⟨g, off + i * 3 + 2, none⟩ = some (.slice B (ls.getD i ActP.zero).x.length d) := (D.bel.cell (World.block_lt_of_cell? w _ ha4)).trans ha4
      have hand := i64_and127 (ls.getD i ActP.zero).n
      have HDR := Lib.hid (And.intro D R)
      have HRB := Lib.hid (And.intro hrd (And.intro hld hdm))
      have HC := Lib.hid (And.intro ha4 hgb)
      clear ha1 ha2 ha3 ha4 hrd hld hdm D R HO
      generalize hp : ls.getD i ActP.zero = p at *
      clear hp
      obtain ⟨n, hn⟩ : ∃ n : Nat, p.n % 128 = (n : Int) := ⟨(p.n % 128).toNat, by omega⟩
      have hn128 : n < 128 := by omega
      rw [hn] at hand
      clear hn
      by_cases hx : 50 < p.x.length
      · have g2 : (50 : Int) < (p.x.length : Int) := by omega
        have FI := Lib.hid HDR.out.1.bel
        clear HDR HRB HC
        go_wp2
        go_ret
        exact ⟨rfl, FI.out⟩
      · have g2 : ¬ (50 : Int) < (p.x.length : Int) := by omega
        have hx50 : p.x.length ≤ 50 := by omega
        obtain ⟨W1, hW1⟩ : ∃ W1, wr.alloc (.cells #[.int .u8 0, .int .u8 9, .int .u8 (2 * (n : Int)), .int .u8 0] 5) = W1 := ⟨_, rfl⟩
        have eW1 : laid wr [0, 9, UInt8.ofNat (2 * n), 0] = W1 := (laid_in wr hn128).trans hW1
        have be1 : Below wr.heap.size wr W1 := by rw [← eW1]; exact laid_below _ _
        have ow1 : Own W1 wr.heap.size (some ⟨wr.heap.size, 0, none⟩) 4 [0, 9, UInt8.ofNat (2 * n), 0] := by rw [← eW1]; exact laid_own wr [0, 9, UInt8.ofNat (2 * n), 0] (by show 4 ≤ 1048576; decide)
        have bew : Below w.heap.size w W1 := HDR.out.1.bel.trans (be1.mono HDR.out.1.bel.size)
        have k2b : W1.cell? ⟨g, off + i * 3 + 2, none⟩ = some (.slice B p.x.length d) := (bew.cell (World.block_lt_of_cell? w _ HC.out.1)).trans HC.out.1
        obtain ⟨A3, c3, v3, r3, ow3, be3⟩ := run_app W1 wr.heap.size (some ⟨wr.heap.size, 0, none⟩) 4 [0, 9, UInt8.ofNat (2 * n), 0] ow1 B d p.x (HRB.out.1.below bew) (by simp; omega) be1.size
        have be13 := be1.trans be3
        have hlen : ([0, 9, UInt8.ofNat (2 * n), 0] ++ p.x).length = 4 + p.x.length := by rw [List.length_append]; rfl
        have hcap := ow3.cap
        obtain ⟨S', hin, R', ho', his', hsn', hak', hlo'⟩ := HDR.out.2.rej.step hn128 hx50
        have IC := (HDR.out.1.grow be13).act (r := .returned (.tuple #[])) (s' := S') (fun H' oA hH => by
          have h := oA.input' ⟨by rw [HDR.out.2.os]; exact Nat.zero_le _, by have := HDR.out.2.is; omega, by rw [HDR.out.2.rej.od]; have := HDR.out.2.all; omega, by rw [HDR.out.2.sn]; exact Nat.zero_le _, by rw [HDR.out.2.ak]; exact Nat.zero_le _, by rw [HDR.out.2.lo]; exact Nat.zero_le _⟩ A3 c3 ([0, 9, UInt8.ofNat (2 * n), 0] ++ p.x) ow3.rd (by rw [hlen]; omega) hcap.1 (by have := hcap.2; unfold maxLen at this; omega) (fun i hi => hH i (.inr (ow3.blk_ge i hi)))
          rw [hin] at h
          exact h)
        rw [hlen] at IC
        rw [hlen] at r3
        have r3' : ∀ ty, (Builtin.append_ #[39, 39] ty #[.slice (some ⟨wr.heap.size, 0, none⟩) 4 4, .slice B p.x.length d]).run Try.prog W1 = .ok (.slice A3 (4 + p.x.length) c3) v3 := r3
        have HR' := Lib.hid (And.intro R' (And.intro ho' (And.intro his' (And.intro hsn' (And.intro hak' hlo')))))
        clear r3 ow3 be3 be13 ow1 be1 bew eW1 hcap hin R' ho' his' hsn' hak' hlo'
        go_wp2_with (first | (at_builtin; refine Lib.wpList_append_run _ rfl _ _ _ _ rfl _ _ rfl rfl _ _ (r3' _) ?_) | fail)
        refine IC.mono ?_
        rintro e w5 ⟨rfl, D5, -⟩
        have D5 := D5.less (H := fun _ => False) (fun _ h => h.elim)
        have k5 : w5.cell? ⟨g, off + i * 3 + 2, none⟩ = some (.slice B p.x.length d) := (D5.bel.cell (World.block_lt_of_cell? w _ HC.out.1)).trans HC.out.1
        have hall := HDR.out.2.all
        have PC := (D5.drewN 0).put (by omega) (n : Int) (by unfold I64; omega) B d p.x (HRB.out.1.below (D5.drewN 0).bel) (by omega)
        have PC : Calls Try.prog 34 #[.pointer (some ⟨pr, 0, none⟩), .int .i64 (n : Int), .slice B p.x.length d] w5 fun r v' => r = .returned (.int .i64 (o.putN n p.x)) ∧ Duo (fun _ => False) w v' b pr S' (o.put n p.x) := PC
        clear IC r3' k1 k2 k2b hand D5
        go_wp2_with fail
        refine PC.mono ?_
        rintro e w6 ⟨rfl, D6⟩
        obtain ⟨pN, hpN⟩ : ∃ pN, o.putN (n : Int) p.x = pN := ⟨_, rfl⟩
        have hPN := Lib.hid hpN
        by_cases hP : 0 < o.putN (n : Int) p.x <;> cases hgp : (o.put (n : Int) p.x).gap <;> cases rj
        · -- True False False
          have hnw : rejNow o n p.x false = false := by unfold rejNow; rw [hgp, if_pos hP]; rfl
          have hnx : rejNext o n p.x false = false := by unfold rejNext; rw [hnw, if_pos hP]; rfl
          have GC := D6.gap
          rw [hgp] at GC
          have OC := D6.output
          rw [HR'.out.2.1, HDR.out.2.os, hnw, List.nil_append] at OC
          have hP' : (0 : Int) < pN := hPN.out ▸ hP
          have HX := Lib.hid hnx
          clear hnw hnx PC D6
          go_wp2_with fail
          refine GC.mono ?_
          rintro e w7 ⟨rfl, hv⟩
          obtain rfl := hv.symm
          go_wp2_with fail
          refine OC.mono ?_
          rintro e w8 ⟨A8, c8, K8, rfl, row8, D8⟩
          change RowP w8 K8 A8 c8 [[0, 9, 1, UInt8.ofNat (2 * (o.put (n : Int) p.x).e)]] at row8
          have R' := HR'.out.1
          rw [HX.out] at R'
          have hev : (o.put (n : Int) p.x).e < 128 := by have h1 := R'.ok.od.e9; have h2 := R'.ok.odm; rw [R'.m] at h2; rw [h2, R'.od] at h1; exact h1
          have HIN := Lib.hid (show RejIn S'.output (o.put (n : Int) p.x) false (i + 1) from ⟨⟨R'.ok.output, R'.st, R'.tg, R'.m, R'.f, R'.n, R'.l, R'.sz, R'.od, R'.rj⟩, rfl, by have := Od.put_all o (n : Int) p.x; omega, by show S'.is.length ≤ 1; rw [HR'.out.2.2.1]; exact HDR.out.2.is, HR'.out.2.2.2.1.trans HDR.out.2.sn, HR'.out.2.2.2.2.1.trans HDR.out.2.ak, HR'.out.2.2.2.2.2.trans HDR.out.2.lo⟩)
          have NX := (D8.drewN 1).next
          obtain ⟨g8, o8, B8, d8, rfl, m8, rd8, -⟩ := row8.at_ (i := 0) (by show 0 < 1; decide)
          have m8 : w8.cell? ⟨g8, o8, none⟩ = some (.slice B8 4 d8) := m8
          have D8 := Lib.hid (D8.less (H := fun _ => False) (fun _ h => h.elim))
          generalize hev2 : (o.put (n : Int) p.x).e = ev at *
          have heb : (2 * (ev : Int)) = ((UInt8.ofNat (2 * ev)).toNat : Int) := by rw [UInt8.toNat_ofNat', show (2 * ev) % 2 ^ 8 = 2 * ev by omega]; rfl
          have hlaid : laid w8.drew [0, 9, 1, UInt8.ofNat (2 * ev)] = (w8.alloc (.cells #[.int .u8 0, .int .u8 9, .int .u8 1, .int .u8 (2 * (ev : Int))] 5)).drew := by
            unfold laid bv
            rw [heb]
            rfl
          obtain ⟨eb, heb2⟩ : ∃ eb, UInt8.ofNat (2 * ev) = eb := ⟨_, rfl⟩
          have rd8 : Rd w8 B8 [0, 9, 1, UInt8.ofNat (2 * ev)] := rd8
          rw [heb2] at hlaid rd8
          have hwv : IntKind.u8.wrap (2 * (ev : Int)) = 2 * (ev : Int) := by rw [IntKind.wrap_u8]; omega
          have hw64 : IntKind.i64.wrap (2 * (ev : Int)) = 2 * (ev : Int) := by rw [IntKind.wrap_i64]; omega
          have be9 : Below w8.heap.size w8 (w8.alloc (.cells #[.int .u8 0, .int .u8 9, .int .u8 1, .int .u8 (2 * (ev : Int))] 5)).drew := ((Below.refl _ _).alloc (Nat.le_refl _) _).trans ⟨rfl, rfl, rfl, Nat.le_refl _, fun _ _ => rfl⟩
          have q9 : (convert 39 9 (.slice (some ⟨w8.heap.size, 0, none⟩) 4 4)).run Try.prog (w8.alloc (.cells #[.int .u8 0, .int .u8 9, .int .u8 1, .int .u8 (2 * (ev : Int))] 5)).drew = .ok (.string ⟨#[0, 9, 1, eb]⟩) (w8.alloc (.cells #[.int .u8 0, .int .u8 9, .int .u8 1, .int .u8 (2 * (ev : Int))] 5)).drew := by rw [← hlaid]; exact run_conv (laid w8.drew [0, 9, 1, eb]) (some ⟨w8.heap.size, 0, none⟩) 4 [0, 9, 1, eb] (laid_rd w8.drew _)
          have HE : Aside (∃ s o, Duo (fun _ => False) w (w8.alloc (.cells #[.int .u8 0, .int .u8 9, .int .u8 1, .int .u8 (2 * (ev : Int))] 5)).drew b pr s o ∧ RejIn s o false (i + 1)) := ⟨S'.output, o.put (n : Int) p.x, D8.out.beside be9, HIN.out⟩
          have HSV : Aside (∀ v, Below w8.heap.size w8 v → (fun v => v.cell? ⟨g8, o8, none⟩ = some (.slice B8 4 d8) ∧ (convert 39 9 (.slice B8 4 d8)).run Try.prog v = .ok (.string ⟨#[0, 9, 1, eb]⟩) v) v) := fun v hv => ⟨(hv.cell (World.block_lt_of_cell? w8 _ m8)).trans m8, run_conv v B8 d8 [0, 9, 1, eb] (rd8.below hv)⟩
          have HS8 := Lib.hid (HSV.out w8.drew ⟨rfl, rfl, rfl, Nat.le_refl _, fun _ _ => rfl⟩)
          have HS9 := Lib.hid (HSV.out (w8.alloc (.cells #[.int .u8 0, .int .u8 9, .int .u8 1, .int .u8 (2 * (ev : Int))] 5)).drew be9)
          have NX : Calls Try.prog 36 #[.pointer (some ⟨pr, 0, none⟩)] w8.drew fun e v' => e = .returned (.int .i64 (ev : Int)) ∧ v' = w8.drew := NX
          clear row8 R' HIN D8 heb hlaid heb2 rd8 m8 be9 HSV OC GC HX HR' HDR HRB HC hev2 k5
          go_wp2_with fail
          go_region_held (fun v => v.cell? ⟨g8, o8, none⟩ = some (.slice B8 4 d8) ∧ (convert 39 9 (.slice B8 4 d8)).run Try.prog v = .ok (.string ⟨#[0, 9, 1, eb]⟩) v) (first | exact HS8.out | exact HS9.out)
            (first | (go_at_call 36; (with_reducible refine NX.mono ?_); rintro e w9 ⟨rfl, hv⟩; obtain rfl := hv.symm))
          all_goals
            go_wp2
            go_roundg (L - (i + 1))
            case measure => omega
            case rel => exact ⟨i + 1, false, by go_num, rfl, by omega, Nat.le_refl _, HE⟩
        · -- True False True
          have hnw : rejNow o n p.x true = false := by unfold rejNow; rw [hgp, if_pos hP]; rfl
          have hnx : rejNext o n p.x true = false := by unfold rejNext; rw [hnw, if_pos hP]; rfl
          have GC := D6.gap
          rw [hgp] at GC
          have OC := D6.output
          rw [HR'.out.2.1, HDR.out.2.os, hnw, List.nil_append] at OC
          have hP' : (0 : Int) < pN := hPN.out ▸ hP
          have HX := Lib.hid hnx
          clear hnw hnx PC D6
          go_wp2_with fail
          refine GC.mono ?_
          rintro e w7 ⟨rfl, hv⟩
          obtain rfl := hv.symm
          go_wp2_with fail
          refine OC.mono ?_
          rintro e w8 ⟨A8, c8, K8, rfl, row8, D8⟩
          change RowP w8 K8 A8 c8 [[0, 9, 1, UInt8.ofNat (2 * (o.put (n : Int) p.x).e)]] at row8
          have R' := HR'.out.1
          rw [HX.out] at R'
          have hev : (o.put (n : Int) p.x).e < 128 := by have h1 := R'.ok.od.e9; have h2 := R'.ok.odm; rw [R'.m] at h2; rw [h2, R'.od] at h1; exact h1
          have HIN := Lib.hid (show RejIn S'.output (o.put (n : Int) p.x) false (i + 1) from ⟨⟨R'.ok.output, R'.st, R'.tg, R'.m, R'.f, R'.n, R'.l, R'.sz, R'.od, R'.rj⟩, rfl, by have := Od.put_all o (n : Int) p.x; omega, by show S'.is.length ≤ 1; rw [HR'.out.2.2.1]; exact HDR.out.2.is, HR'.out.2.2.2.1.trans HDR.out.2.sn, HR'.out.2.2.2.2.1.trans HDR.out.2.ak, HR'.out.2.2.2.2.2.trans HDR.out.2.lo⟩)
          have NX := (D8.drewN 1).next
          obtain ⟨g8, o8, B8, d8, rfl, m8, rd8, -⟩ := row8.at_ (i := 0) (by show 0 < 1; decide)
          have m8 : w8.cell? ⟨g8, o8, none⟩ = some (.slice B8 4 d8) := m8
          have D8 := Lib.hid (D8.less (H := fun _ => False) (fun _ h => h.elim))
          generalize hev2 : (o.put (n : Int) p.x).e = ev at *
          have heb : (2 * (ev : Int)) = ((UInt8.ofNat (2 * ev)).toNat : Int) := by rw [UInt8.toNat_ofNat', show (2 * ev) % 2 ^ 8 = 2 * ev by omega]; rfl
          have hlaid : laid w8.drew [0, 9, 1, UInt8.ofNat (2 * ev)] = (w8.alloc (.cells #[.int .u8 0, .int .u8 9, .int .u8 1, .int .u8 (2 * (ev : Int))] 5)).drew := by
            unfold laid bv
            rw [heb]
            rfl
          obtain ⟨eb, heb2⟩ : ∃ eb, UInt8.ofNat (2 * ev) = eb := ⟨_, rfl⟩
          have rd8 : Rd w8 B8 [0, 9, 1, UInt8.ofNat (2 * ev)] := rd8
          rw [heb2] at hlaid rd8
          have hwv : IntKind.u8.wrap (2 * (ev : Int)) = 2 * (ev : Int) := by rw [IntKind.wrap_u8]; omega
          have hw64 : IntKind.i64.wrap (2 * (ev : Int)) = 2 * (ev : Int) := by rw [IntKind.wrap_i64]; omega
          have be9 : Below w8.heap.size w8 (w8.alloc (.cells #[.int .u8 0, .int .u8 9, .int .u8 1, .int .u8 (2 * (ev : Int))] 5)).drew := ((Below.refl _ _).alloc (Nat.le_refl _) _).trans ⟨rfl, rfl, rfl, Nat.le_refl _, fun _ _ => rfl⟩
          have q9 : (convert 39 9 (.slice (some ⟨w8.heap.size, 0, none⟩) 4 4)).run Try.prog (w8.alloc (.cells #[.int .u8 0, .int .u8 9, .int .u8 1, .int .u8 (2 * (ev : Int))] 5)).drew = .ok (.string ⟨#[0, 9, 1, eb]⟩) (w8.alloc (.cells #[.int .u8 0, .int .u8 9, .int .u8 1, .int .u8 (2 * (ev : Int))] 5)).drew := by rw [← hlaid]; exact run_conv (laid w8.drew [0, 9, 1, eb]) (some ⟨w8.heap.size, 0, none⟩) 4 [0, 9, 1, eb] (laid_rd w8.drew _)
          have HE : Aside (∃ s o, Duo (fun _ => False) w (w8.alloc (.cells #[.int .u8 0, .int .u8 9, .int .u8 1, .int .u8 (2 * (ev : Int))] 5)).drew b pr s o ∧ RejIn s o false (i + 1)) := ⟨S'.output, o.put (n : Int) p.x, D8.out.beside be9, HIN.out⟩
          have HSV : Aside (∀ v, Below w8.heap.size w8 v → (fun v => v.cell? ⟨g8, o8, none⟩ = some (.slice B8 4 d8) ∧ (convert 39 9 (.slice B8 4 d8)).run Try.prog v = .ok (.string ⟨#[0, 9, 1, eb]⟩) v) v) := fun v hv => ⟨(hv.cell (World.block_lt_of_cell? w8 _ m8)).trans m8, run_conv v B8 d8 [0, 9, 1, eb] (rd8.below hv)⟩
          have HS8 := Lib.hid (HSV.out w8.drew ⟨rfl, rfl, rfl, Nat.le_refl _, fun _ _ => rfl⟩)
          have HS9 := Lib.hid (HSV.out (w8.alloc (.cells #[.int .u8 0, .int .u8 9, .int .u8 1, .int .u8 (2 * (ev : Int))] 5)).drew be9)
          have NX : Calls Try.prog 36 #[.pointer (some ⟨pr, 0, none⟩)] w8.drew fun e v' => e = .returned (.int .i64 (ev : Int)) ∧ v' = w8.drew := NX
          clear row8 R' HIN D8 heb hlaid heb2 rd8 m8 be9 HSV OC GC HX HR' HDR HRB HC hev2 k5
          go_wp2_with fail
          go_region_held (fun v => v.cell? ⟨g8, o8, none⟩ = some (.slice B8 4 d8) ∧ (convert 39 9 (.slice B8 4 d8)).run Try.prog v = .ok (.string ⟨#[0, 9, 1, eb]⟩) v) (first | exact HS8.out | exact HS9.out)
            (first | (go_at_call 36; (with_reducible refine NX.mono ?_); rintro e w9 ⟨rfl, hv⟩; obtain rfl := hv.symm))
          all_goals
            go_wp2
            go_roundg (L - (i + 1))
            case measure => omega
            case rel => exact ⟨i + 1, false, by go_num, rfl, by omega, Nat.le_refl _, HE⟩
        · -- True True False
          have hnw : rejNow o n p.x false = true := by unfold rejNow; rw [hgp, if_pos hP]; rfl
          have hnx : rejNext o n p.x false = true := by unfold rejNext; rw [hnw, if_pos hP]; rfl
          have GC := D6.gap
          rw [hgp] at GC
          have OC := D6.output
          rw [HR'.out.2.1, HDR.out.2.os, hnw, List.nil_append] at OC
          have hP' : (0 : Int) < pN := hPN.out ▸ hP
          have HX := Lib.hid hnx
          clear hnw hnx PC D6
          go_wp2_with fail
          refine GC.mono ?_
          rintro e w7 ⟨rfl, hv⟩
          obtain rfl := hv.symm
          go_wp2_with fail
          refine OC.mono ?_
          rintro e w8 ⟨A8, c8, K8, rfl, row8, D8⟩
          change RowP w8 K8 A8 c8 [[0, 9, 9, UInt8.ofNat (2 * (o.put (n : Int) p.x).e)]] at row8
          have R' := HR'.out.1
          rw [HX.out] at R'
          have hev : (o.put (n : Int) p.x).e < 128 := by have h1 := R'.ok.od.e9; have h2 := R'.ok.odm; rw [R'.m] at h2; rw [h2, R'.od] at h1; exact h1
          have HIN := Lib.hid (show RejIn S'.output (o.put (n : Int) p.x) true (i + 1) from ⟨⟨R'.ok.output, R'.st, R'.tg, R'.m, R'.f, R'.n, R'.l, R'.sz, R'.od, R'.rj⟩, rfl, by have := Od.put_all o (n : Int) p.x; omega, by show S'.is.length ≤ 1; rw [HR'.out.2.2.1]; exact HDR.out.2.is, HR'.out.2.2.2.1.trans HDR.out.2.sn, HR'.out.2.2.2.2.1.trans HDR.out.2.ak, HR'.out.2.2.2.2.2.trans HDR.out.2.lo⟩)
          have NX := (D8.drewN 1).next
          obtain ⟨g8, o8, B8, d8, rfl, m8, rd8, -⟩ := row8.at_ (i := 0) (by show 0 < 1; decide)
          have m8 : w8.cell? ⟨g8, o8, none⟩ = some (.slice B8 4 d8) := m8
          have D8 := Lib.hid (D8.less (H := fun _ => False) (fun _ h => h.elim))
          generalize hev2 : (o.put (n : Int) p.x).e = ev at *
          have heb : (2 * (ev : Int)) = ((UInt8.ofNat (2 * ev)).toNat : Int) := by rw [UInt8.toNat_ofNat', show (2 * ev) % 2 ^ 8 = 2 * ev by omega]; rfl
          have hlaid : laid w8.drew [0, 9, 9, UInt8.ofNat (2 * ev)] = (w8.alloc (.cells #[.int .u8 0, .int .u8 9, .int .u8 9, .int .u8 (2 * (ev : Int))] 5)).drew := by
            unfold laid bv
            rw [heb]
            rfl
          obtain ⟨eb, heb2⟩ : ∃ eb, UInt8.ofNat (2 * ev) = eb := ⟨_, rfl⟩
          have rd8 : Rd w8 B8 [0, 9, 9, UInt8.ofNat (2 * ev)] := rd8
          rw [heb2] at hlaid rd8
          have hwv : IntKind.u8.wrap (2 * (ev : Int)) = 2 * (ev : Int) := by rw [IntKind.wrap_u8]; omega
          have hw64 : IntKind.i64.wrap (2 * (ev : Int)) = 2 * (ev : Int) := by rw [IntKind.wrap_i64]; omega
          have be9 : Below w8.heap.size w8 (w8.alloc (.cells #[.int .u8 0, .int .u8 9, .int .u8 9, .int .u8 (2 * (ev : Int))] 5)).drew := ((Below.refl _ _).alloc (Nat.le_refl _) _).trans ⟨rfl, rfl, rfl, Nat.le_refl _, fun _ _ => rfl⟩
          have q9 : (convert 39 9 (.slice (some ⟨w8.heap.size, 0, none⟩) 4 4)).run Try.prog (w8.alloc (.cells #[.int .u8 0, .int .u8 9, .int .u8 9, .int .u8 (2 * (ev : Int))] 5)).drew = .ok (.string ⟨#[0, 9, 9, eb]⟩) (w8.alloc (.cells #[.int .u8 0, .int .u8 9, .int .u8 9, .int .u8 (2 * (ev : Int))] 5)).drew := by rw [← hlaid]; exact run_conv (laid w8.drew [0, 9, 9, eb]) (some ⟨w8.heap.size, 0, none⟩) 4 [0, 9, 9, eb] (laid_rd w8.drew _)
          have HE : Aside (∃ s o, Duo (fun _ => False) w (w8.alloc (.cells #[.int .u8 0, .int .u8 9, .int .u8 9, .int .u8 (2 * (ev : Int))] 5)).drew b pr s o ∧ RejIn s o true (i + 1)) := ⟨S'.output, o.put (n : Int) p.x, D8.out.beside be9, HIN.out⟩
          have HSV : Aside (∀ v, Below w8.heap.size w8 v → (fun v => v.cell? ⟨g8, o8, none⟩ = some (.slice B8 4 d8) ∧ (convert 39 9 (.slice B8 4 d8)).run Try.prog v = .ok (.string ⟨#[0, 9, 9, eb]⟩) v) v) := fun v hv => ⟨(hv.cell (World.block_lt_of_cell? w8 _ m8)).trans m8, run_conv v B8 d8 [0, 9, 9, eb] (rd8.below hv)⟩
          have HS8 := Lib.hid (HSV.out w8.drew ⟨rfl, rfl, rfl, Nat.le_refl _, fun _ _ => rfl⟩)
          have HS9 := Lib.hid (HSV.out (w8.alloc (.cells #[.int .u8 0, .int .u8 9, .int .u8 9, .int .u8 (2 * (ev : Int))] 5)).drew be9)
          have NX : Calls Try.prog 36 #[.pointer (some ⟨pr, 0, none⟩)] w8.drew fun e v' => e = .returned (.int .i64 (ev : Int)) ∧ v' = w8.drew := NX
          clear row8 R' HIN D8 heb hlaid heb2 rd8 m8 be9 HSV OC GC HX HR' HDR HRB HC hev2 k5
          go_wp2_with fail
          go_region_held (fun v => v.cell? ⟨g8, o8, none⟩ = some (.slice B8 4 d8) ∧ (convert 39 9 (.slice B8 4 d8)).run Try.prog v = .ok (.string ⟨#[0, 9, 9, eb]⟩) v) (first | exact HS8.out | exact HS9.out)
            (first | (go_at_call 36; (with_reducible refine NX.mono ?_); rintro e w9 ⟨rfl, hv⟩; obtain rfl := hv.symm))
          all_goals
            go_wp2
            go_roundg (L - (i + 1))
            case measure => omega
            case rel => exact ⟨i + 1, true, by go_num, rfl, by omega, Nat.le_refl _, HE⟩
        · -- True True True
          have hnw : rejNow o n p.x true = true := by unfold rejNow; rw [hgp, if_pos hP]; rfl
          have hnx : rejNext o n p.x true = true := by unfold rejNext; rw [hnw, if_pos hP]; rfl
          have GC := D6.gap
          rw [hgp] at GC
          have OC := D6.output
          rw [HR'.out.2.1, HDR.out.2.os, hnw, List.nil_append] at OC
          have hP' : (0 : Int) < pN := hPN.out ▸ hP
          have HX := Lib.hid hnx
          clear hnw hnx PC D6
          go_wp2_with fail
          refine GC.mono ?_
          rintro e w7 ⟨rfl, hv⟩
          obtain rfl := hv.symm
          go_wp2_with fail
          refine OC.mono ?_
          rintro e w8 ⟨A8, c8, K8, rfl, row8, D8⟩
          change RowP w8 K8 A8 c8 [[0, 9, 9, UInt8.ofNat (2 * (o.put (n : Int) p.x).e)]] at row8
          have R' := HR'.out.1
          rw [HX.out] at R'
          have hev : (o.put (n : Int) p.x).e < 128 := by have h1 := R'.ok.od.e9; have h2 := R'.ok.odm; rw [R'.m] at h2; rw [h2, R'.od] at h1; exact h1
          have HIN := Lib.hid (show RejIn S'.output (o.put (n : Int) p.x) true (i + 1) from ⟨⟨R'.ok.output, R'.st, R'.tg, R'.m, R'.f, R'.n, R'.l, R'.sz, R'.od, R'.rj⟩, rfl, by have := Od.put_all o (n : Int) p.x; omega, by show S'.is.length ≤ 1; rw [HR'.out.2.2.1]; exact HDR.out.2.is, HR'.out.2.2.2.1.trans HDR.out.2.sn, HR'.out.2.2.2.2.1.trans HDR.out.2.ak, HR'.out.2.2.2.2.2.trans HDR.out.2.lo⟩)
          have NX := (D8.drewN 1).next
          obtain ⟨g8, o8, B8, d8, rfl, m8, rd8, -⟩ := row8.at_ (i := 0) (by show 0 < 1; decide)
          have m8 : w8.cell? ⟨g8, o8, none⟩ = some (.slice B8 4 d8) := m8
          have D8 := Lib.hid (D8.less (H := fun _ => False) (fun _ h => h.elim))
          generalize hev2 : (o.put (n : Int) p.x).e = ev at *
          have heb : (2 * (ev : Int)) = ((UInt8.ofNat (2 * ev)).toNat : Int) := by rw [UInt8.toNat_ofNat', show (2 * ev) % 2 ^ 8 = 2 * ev by omega]; rfl
          have hlaid : laid w8.drew [0, 9, 9, UInt8.ofNat (2 * ev)] = (w8.alloc (.cells #[.int .u8 0, .int .u8 9, .int .u8 9, .int .u8 (2 * (ev : Int))] 5)).drew := by
            unfold laid bv
            rw [heb]
            rfl
          obtain ⟨eb, heb2⟩ : ∃ eb, UInt8.ofNat (2 * ev) = eb := ⟨_, rfl⟩
          have rd8 : Rd w8 B8 [0, 9, 9, UInt8.ofNat (2 * ev)] := rd8
          rw [heb2] at hlaid rd8
          have hwv : IntKind.u8.wrap (2 * (ev : Int)) = 2 * (ev : Int) := by rw [IntKind.wrap_u8]; omega
          have hw64 : IntKind.i64.wrap (2 * (ev : Int)) = 2 * (ev : Int) := by rw [IntKind.wrap_i64]; omega
          have be9 : Below w8.heap.size w8 (w8.alloc (.cells #[.int .u8 0, .int .u8 9, .int .u8 9, .int .u8 (2 * (ev : Int))] 5)).drew := ((Below.refl _ _).alloc (Nat.le_refl _) _).trans ⟨rfl, rfl, rfl, Nat.le_refl _, fun _ _ => rfl⟩
          have q9 : (convert 39 9 (.slice (some ⟨w8.heap.size, 0, none⟩) 4 4)).run Try.prog (w8.alloc (.cells #[.int .u8 0, .int .u8 9, .int .u8 9, .int .u8 (2 * (ev : Int))] 5)).drew = .ok (.string ⟨#[0, 9, 9, eb]⟩) (w8.alloc (.cells #[.int .u8 0, .int .u8 9, .int .u8 9, .int .u8 (2 * (ev : Int))] 5)).drew := by rw [← hlaid]; exact run_conv (laid w8.drew [0, 9, 9, eb]) (some ⟨w8.heap.size, 0, none⟩) 4 [0, 9, 9, eb] (laid_rd w8.drew _)
          have HE : Aside (∃ s o, Duo (fun _ => False) w (w8.alloc (.cells #[.int .u8 0, .int .u8 9, .int .u8 9, .int .u8 (2 * (ev : Int))] 5)).drew b pr s o ∧ RejIn s o true (i + 1)) := ⟨S'.output, o.put (n : Int) p.x, D8.out.beside be9, HIN.out⟩
          have HSV : Aside (∀ v, Below w8.heap.size w8 v → (fun v => v.cell? ⟨g8, o8, none⟩ = some (.slice B8 4 d8) ∧ (convert 39 9 (.slice B8 4 d8)).run Try.prog v = .ok (.string ⟨#[0, 9, 9, eb]⟩) v) v) := fun v hv => ⟨(hv.cell (World.block_lt_of_cell? w8 _ m8)).trans m8, run_conv v B8 d8 [0, 9, 9, eb] (rd8.below hv)⟩
          have HS8 := Lib.hid (HSV.out w8.drew ⟨rfl, rfl, rfl, Nat.le_refl _, fun _ _ => rfl⟩)
          have HS9 := Lib.hid (HSV.out (w8.alloc (.cells #[.int .u8 0, .int .u8 9, .int .u8 9, .int .u8 (2 * (ev : Int))] 5)).drew be9)
          have NX : Calls Try.prog 36 #[.pointer (some ⟨pr, 0, none⟩)] w8.drew fun e v' => e = .returned (.int .i64 (ev : Int)) ∧ v' = w8.drew := NX
          clear row8 R' HIN D8 heb hlaid heb2 rd8 m8 be9 HSV OC GC HX HR' HDR HRB HC hev2 k5
          go_wp2_with fail
          go_region_held (fun v => v.cell? ⟨g8, o8, none⟩ = some (.slice B8 4 d8) ∧ (convert 39 9 (.slice B8 4 d8)).run Try.prog v = .ok (.string ⟨#[0, 9, 9, eb]⟩) v) (first | exact HS8.out | exact HS9.out)
            (first | (go_at_call 36; (with_reducible refine NX.mono ?_); rintro e w9 ⟨rfl, hv⟩; obtain rfl := hv.symm))
          all_goals
            go_wp2
            go_roundg (L - (i + 1))
            case measure => omega
            case rel => exact ⟨i + 1, true, by go_num, rfl, by omega, Nat.le_refl _, HE⟩
        · -- False False False
          have hnw : rejNow o n p.x false = false := by unfold rejNow; rw [hgp, if_neg hP]; rfl
          have hnx : rejNext o n p.x false = false := by unfold rejNext; rw [hnw, if_neg hP]; rfl
          have GC := D6.gap
          rw [hgp] at GC
          have OC := D6.output
          rw [HR'.out.2.1, HDR.out.2.os, hnw, List.nil_append] at OC
          have hP' : ¬ (0 : Int) < pN := hPN.out ▸ hP
          have HX := Lib.hid hnx
          clear hnw hnx PC D6
          go_wp2_with fail
          refine GC.mono ?_
          rintro e w7 ⟨rfl, hv⟩
          obtain rfl := hv.symm
          go_wp2_with fail
          refine OC.mono ?_
          rintro e w8 ⟨A8, c8, K8, rfl, row8, D8⟩
          change RowP w8 K8 A8 c8 [[0, 9, 1, UInt8.ofNat (2 * (o.put (n : Int) p.x).e)]] at row8
          have R' := HR'.out.1
          rw [HX.out] at R'
          have hev : (o.put (n : Int) p.x).e < 128 := by have h1 := R'.ok.od.e9; have h2 := R'.ok.odm; rw [R'.m] at h2; rw [h2, R'.od] at h1; exact h1
          have HIN := Lib.hid (show RejIn S'.output (o.put (n : Int) p.x) false (i + 1) from ⟨⟨R'.ok.output, R'.st, R'.tg, R'.m, R'.f, R'.n, R'.l, R'.sz, R'.od, R'.rj⟩, rfl, by have := Od.put_all o (n : Int) p.x; omega, by show S'.is.length ≤ 1; rw [HR'.out.2.2.1]; exact HDR.out.2.is, HR'.out.2.2.2.1.trans HDR.out.2.sn, HR'.out.2.2.2.2.1.trans HDR.out.2.ak, HR'.out.2.2.2.2.2.trans HDR.out.2.lo⟩)
          have NX := (D8.drewN 1).next
          obtain ⟨g8, o8, B8, d8, rfl, m8, rd8, -⟩ := row8.at_ (i := 0) (by show 0 < 1; decide)
          have m8 : w8.cell? ⟨g8, o8, none⟩ = some (.slice B8 4 d8) := m8
          have D8 := Lib.hid (D8.less (H := fun _ => False) (fun _ h => h.elim))
          generalize hev2 : (o.put (n : Int) p.x).e = ev at *
          have heb : (2 * (ev : Int)) = ((UInt8.ofNat (2 * ev)).toNat : Int) := by rw [UInt8.toNat_ofNat', show (2 * ev) % 2 ^ 8 = 2 * ev by omega]; rfl
          have hlaid : laid w8.drew [0, 9, 1, UInt8.ofNat (2 * ev)] = (w8.alloc (.cells #[.int .u8 0, .int .u8 9, .int .u8 1, .int .u8 (2 * (ev : Int))] 5)).drew := by
            unfold laid bv
            rw [heb]
            rfl
          obtain ⟨eb, heb2⟩ : ∃ eb, UInt8.ofNat (2 * ev) = eb := ⟨_, rfl⟩
          have rd8 : Rd w8 B8 [0, 9, 1, UInt8.ofNat (2 * ev)] := rd8
          rw [heb2] at hlaid rd8
          have hwv : IntKind.u8.wrap (2 * (ev : Int)) = 2 * (ev : Int) := by rw [IntKind.wrap_u8]; omega
          have hw64 : IntKind.i64.wrap (2 * (ev : Int)) = 2 * (ev : Int) := by rw [IntKind.wrap_i64]; omega
          have be9 : Below w8.heap.size w8 (w8.alloc (.cells #[.int .u8 0, .int .u8 9, .int .u8 1, .int .u8 (2 * (ev : Int))] 5)).drew := ((Below.refl _ _).alloc (Nat.le_refl _) _).trans ⟨rfl, rfl, rfl, Nat.le_refl _, fun _ _ => rfl⟩
          have q9 : (convert 39 9 (.slice (some ⟨w8.heap.size, 0, none⟩) 4 4)).run Try.prog (w8.alloc (.cells #[.int .u8 0, .int .u8 9, .int .u8 1, .int .u8 (2 * (ev : Int))] 5)).drew = .ok (.string ⟨#[0, 9, 1, eb]⟩) (w8.alloc (.cells #[.int .u8 0, .int .u8 9, .int .u8 1, .int .u8 (2 * (ev : Int))] 5)).drew := by rw [← hlaid]; exact run_conv (laid w8.drew [0, 9, 1, eb]) (some ⟨w8.heap.size, 0, none⟩) 4 [0, 9, 1, eb] (laid_rd w8.drew _)
          have HE : Aside (∃ s o, Duo (fun _ => False) w (w8.alloc (.cells #[.int .u8 0, .int .u8 9, .int .u8 1, .int .u8 (2 * (ev : Int))] 5)).drew b pr s o ∧ RejIn s o false (i + 1)) := ⟨S'.output, o.put (n : Int) p.x, D8.out.beside be9, HIN.out⟩
          have HSV : Aside (∀ v, Below w8.heap.size w8 v → (fun v => v.cell? ⟨g8, o8, none⟩ = some (.slice B8 4 d8) ∧ (convert 39 9 (.slice B8 4 d8)).run Try.prog v = .ok (.string ⟨#[0, 9, 1, eb]⟩) v) v) := fun v hv => ⟨(hv.cell (World.block_lt_of_cell? w8 _ m8)).trans m8, run_conv v B8 d8 [0, 9, 1, eb] (rd8.below hv)⟩
          have HS8 := Lib.hid (HSV.out w8.drew ⟨rfl, rfl, rfl, Nat.le_refl _, fun _ _ => rfl⟩)
          have HS9 := Lib.hid (HSV.out (w8.alloc (.cells #[.int .u8 0, .int .u8 9, .int .u8 1, .int .u8 (2 * (ev : Int))] 5)).drew be9)
          have NX : Calls Try.prog 36 #[.pointer (some ⟨pr, 0, none⟩)] w8.drew fun e v' => e = .returned (.int .i64 (ev : Int)) ∧ v' = w8.drew := NX
          clear row8 R' HIN D8 heb hlaid heb2 rd8 m8 be9 HSV OC GC HX HR' HDR HRB HC hev2 k5
          go_wp2_with fail
          go_region_held (fun v => v.cell? ⟨g8, o8, none⟩ = some (.slice B8 4 d8) ∧ (convert 39 9 (.slice B8 4 d8)).run Try.prog v = .ok (.string ⟨#[0, 9, 1, eb]⟩) v) (first | exact HS8.out | exact HS9.out)
            (first | (go_at_call 36; (with_reducible refine NX.mono ?_); rintro e w9 ⟨rfl, hv⟩; obtain rfl := hv.symm))
          all_goals
            go_wp2
            go_roundg (L - (i + 1))
            case measure => omega
            case rel => exact ⟨i + 1, false, by go_num, rfl, by omega, Nat.le_refl _, HE⟩
        · -- False False True
          have hnw : rejNow o n p.x true = false := by unfold rejNow; rw [hgp, if_neg hP]; rfl
          have hnx : rejNext o n p.x true = true := by unfold rejNext; rw [hnw, if_neg hP]; rfl
          have GC := D6.gap
          rw [hgp] at GC
          have OC := D6.output
          rw [HR'.out.2.1, HDR.out.2.os, hnw, List.nil_append] at OC
          have hP' : ¬ (0 : Int) < pN := hPN.out ▸ hP
          have HX := Lib.hid hnx
          clear hnw hnx PC D6
          go_wp2_with fail
          refine GC.mono ?_
          rintro e w7 ⟨rfl, hv⟩
          obtain rfl := hv.symm
          go_wp2_with fail
          refine OC.mono ?_
          rintro e w8 ⟨A8, c8, K8, rfl, row8, D8⟩
          change RowP w8 K8 A8 c8 [[0, 9, 1, UInt8.ofNat (2 * (o.put (n : Int) p.x).e)]] at row8
          have R' := HR'.out.1
          rw [HX.out] at R'
          have hev : (o.put (n : Int) p.x).e < 128 := by have h1 := R'.ok.od.e9; have h2 := R'.ok.odm; rw [R'.m] at h2; rw [h2, R'.od] at h1; exact h1
          have HIN := Lib.hid (show RejIn S'.output (o.put (n : Int) p.x) true (i + 1) from ⟨⟨R'.ok.output, R'.st, R'.tg, R'.m, R'.f, R'.n, R'.l, R'.sz, R'.od, R'.rj⟩, rfl, by have := Od.put_all o (n : Int) p.x; omega, by show S'.is.length ≤ 1; rw [HR'.out.2.2.1]; exact HDR.out.2.is, HR'.out.2.2.2.1.trans HDR.out.2.sn, HR'.out.2.2.2.2.1.trans HDR.out.2.ak, HR'.out.2.2.2.2.2.trans HDR.out.2.lo⟩)
          have NX := (D8.drewN 1).next
          obtain ⟨g8, o8, B8, d8, rfl, m8, rd8, -⟩ := row8.at_ (i := 0) (by show 0 < 1; decide)
          have m8 : w8.cell? ⟨g8, o8, none⟩ = some (.slice B8 4 d8) := m8
          have D8 := Lib.hid (D8.less (H := fun _ => False) (fun _ h => h.elim))
          generalize hev2 : (o.put (n : Int) p.x).e = ev at *
          have heb : (2 * (ev : Int)) = ((UInt8.ofNat (2 * ev)).toNat : Int) := by rw [UInt8.toNat_ofNat', show (2 * ev) % 2 ^ 8 = 2 * ev by omega]; rfl
          have hlaid : laid w8.drew [0, 9, 1, UInt8.ofNat (2 * ev)] = (w8.alloc (.cells #[.int .u8 0, .int .u8 9, .int .u8 1, .int .u8 (2 * (ev : Int))] 5)).drew := by
            unfold laid bv
            rw [heb]
            rfl
          obtain ⟨eb, heb2⟩ : ∃ eb, UInt8.ofNat (2 * ev) = eb := ⟨_, rfl⟩
          have rd8 : Rd w8 B8 [0, 9, 1, UInt8.ofNat (2 * ev)] := rd8
          rw [heb2] at hlaid rd8
          have hwv : IntKind.u8.wrap (2 * (ev : Int)) = 2 * (ev : Int) := by rw [IntKind.wrap_u8]; omega
          have hw64 : IntKind.i64.wrap (2 * (ev : Int)) = 2 * (ev : Int) := by rw [IntKind.wrap_i64]; omega
          have be9 : Below w8.heap.size w8 (w8.alloc (.cells #[.int .u8 0, .int .u8 9, .int .u8 1, .int .u8 (2 * (ev : Int))] 5)).drew := ((Below.refl _ _).alloc (Nat.le_refl _) _).trans ⟨rfl, rfl, rfl, Nat.le_refl _, fun _ _ => rfl⟩
          have q9 : (convert 39 9 (.slice (some ⟨w8.heap.size, 0, none⟩) 4 4)).run Try.prog (w8.alloc (.cells #[.int .u8 0, .int .u8 9, .int .u8 1, .int .u8 (2 * (ev : Int))] 5)).drew = .ok (.string ⟨#[0, 9, 1, eb]⟩) (w8.alloc (.cells #[.int .u8 0, .int .u8 9, .int .u8 1, .int .u8 (2 * (ev : Int))] 5)).drew := by rw [← hlaid]; exact run_conv (laid w8.drew [0, 9, 1, eb]) (some ⟨w8.heap.size, 0, none⟩) 4 [0, 9, 1, eb] (laid_rd w8.drew _)
          have HE : Aside (∃ s o, Duo (fun _ => False) w (w8.alloc (.cells #[.int .u8 0, .int .u8 9, .int .u8 1, .int .u8 (2 * (ev : Int))] 5)).drew b pr s o ∧ RejIn s o true (i + 1)) := ⟨S'.output, o.put (n : Int) p.x, D8.out.beside be9, HIN.out⟩
          have HSV : Aside (∀ v, Below w8.heap.size w8 v → (fun v => v.cell? ⟨g8, o8, none⟩ = some (.slice B8 4 d8) ∧ (convert 39 9 (.slice B8 4 d8)).run Try.prog v = .ok (.string ⟨#[0, 9, 1, eb]⟩) v) v) := fun v hv => ⟨(hv.cell (World.block_lt_of_cell? w8 _ m8)).trans m8, run_conv v B8 d8 [0, 9, 1, eb] (rd8.below hv)⟩
          have HS8 := Lib.hid (HSV.out w8.drew ⟨rfl, rfl, rfl, Nat.le_refl _, fun _ _ => rfl⟩)
          have HS9 := Lib.hid (HSV.out (w8.alloc (.cells #[.int .u8 0, .int .u8 9, .int .u8 1, .int .u8 (2 * (ev : Int))] 5)).drew be9)
          have NX : Calls Try.prog 36 #[.pointer (some ⟨pr, 0, none⟩)] w8.drew fun e v' => e = .returned (.int .i64 (ev : Int)) ∧ v' = w8.drew := NX
          clear row8 R' HIN D8 heb hlaid heb2 rd8 m8 be9 HSV OC GC HX HR' HDR HRB HC hev2 k5
          go_wp2_with fail
          go_region_held (fun v => v.cell? ⟨g8, o8, none⟩ = some (.slice B8 4 d8) ∧ (convert 39 9 (.slice B8 4 d8)).run Try.prog v = .ok (.string ⟨#[0, 9, 1, eb]⟩) v) (first | exact HS8.out | exact HS9.out)
            (first | (go_at_call 36; (with_reducible refine NX.mono ?_); rintro e w9 ⟨rfl, hv⟩; obtain rfl := hv.symm))
          all_goals
            go_wp2
            go_roundg (L - (i + 1))
            case measure => omega
            case rel => exact ⟨i + 1, true, by go_num, rfl, by omega, Nat.le_refl _, HE⟩
        · -- False True False
          have hnw : rejNow o n p.x false = true := by unfold rejNow; rw [hgp, if_neg hP]; rfl
          have hnx : rejNext o n p.x false = true := by unfold rejNext; rw [hnw, if_neg hP]; rfl
          have GC := D6.gap
          rw [hgp] at GC
          have OC := D6.output
          rw [HR'.out.2.1, HDR.out.2.os, hnw, List.nil_append] at OC
          have hP' : ¬ (0 : Int) < pN := hPN.out ▸ hP
          have HX := Lib.hid hnx
          clear hnw hnx PC D6
          go_wp2_with fail
          refine GC.mono ?_
          rintro e w7 ⟨rfl, hv⟩
          obtain rfl := hv.symm
          go_wp2_with fail
          refine OC.mono ?_
          rintro e w8 ⟨A8, c8, K8, rfl, row8, D8⟩
          change RowP w8 K8 A8 c8 [[0, 9, 9, UInt8.ofNat (2 * (o.put (n : Int) p.x).e)]] at row8
          have R' := HR'.out.1
          rw [HX.out] at R'
          have hev : (o.put (n : Int) p.x).e < 128 := by have h1 := R'.ok.od.e9; have h2 := R'.ok.odm; rw [R'.m] at h2; rw [h2, R'.od] at h1; exact h1
          have HIN := Lib.hid (show RejIn S'.output (o.put (n : Int) p.x) true (i + 1) from ⟨⟨R'.ok.output, R'.st, R'.tg, R'.m, R'.f, R'.n, R'.l, R'.sz, R'.od, R'.rj⟩, rfl, by have := Od.put_all o (n : Int) p.x; omega, by show S'.is.length ≤ 1; rw [HR'.out.2.2.1]; exact HDR.out.2.is, HR'.out.2.2.2.1.trans HDR.out.2.sn, HR'.out.2.2.2.2.1.trans HDR.out.2.ak, HR'.out.2.2.2.2.2.trans HDR.out.2.lo⟩)
          have NX := (D8.drewN 1).next
          obtain ⟨g8, o8, B8, d8, rfl, m8, rd8, -⟩ := row8.at_ (i := 0) (by show 0 < 1; decide)
          have m8 : w8.cell? ⟨g8, o8, none⟩ = some (.slice B8 4 d8) := m8
          have D8 := Lib.hid (D8.less (H := fun _ => False) (fun _ h => h.elim))
          generalize hev2 : (o.put (n : Int) p.x).e = ev at *
          have heb : (2 * (ev : Int)) = ((UInt8.ofNat (2 * ev)).toNat : Int) := by rw [UInt8.toNat_ofNat', show (2 * ev) % 2 ^ 8 = 2 * ev by omega]; rfl
          have hlaid : laid w8.drew [0, 9, 9, UInt8.ofNat (2 * ev)] = (w8.alloc (.cells #[.int .u8 0, .int .u8 9, .int .u8 9, .int .u8 (2 * (ev : Int))] 5)).drew := by
            unfold laid bv
            rw [heb]
            rfl
          obtain ⟨eb, heb2⟩ : ∃ eb, UInt8.ofNat (2 * ev) = eb := ⟨_, rfl⟩
          have rd8 : Rd w8 B8 [0, 9, 9, UInt8.ofNat (2 * ev)] := rd8
          rw [heb2] at hlaid rd8
          have hwv : IntKind.u8.wrap (2 * (ev : Int)) = 2 * (ev : Int) := by rw [IntKind.wrap_u8]; omega
          have hw64 : IntKind.i64.wrap (2 * (ev : Int)) = 2 * (ev : Int) := by rw [IntKind.wrap_i64]; omega
          have be9 : Below w8.heap.size w8 (w8.alloc (.cells #[.int .u8 0, .int .u8 9, .int .u8 9, .int .u8 (2 * (ev : Int))] 5)).drew := ((Below.refl _ _).alloc (Nat.le_refl _) _).trans ⟨rfl, rfl, rfl, Nat.le_refl _, fun _ _ => rfl⟩
          have q9 : (convert 39 9 (.slice (some ⟨w8.heap.size, 0, none⟩) 4 4)).run Try.prog (w8.alloc (.cells #[.int .u8 0, .int .u8 9, .int .u8 9, .int .u8 (2 * (ev : Int))] 5)).drew = .ok (.string ⟨#[0, 9, 9, eb]⟩) (w8.alloc (.cells #[.int .u8 0, .int .u8 9, .int .u8 9, .int .u8 (2 * (ev : Int))] 5)).drew := by rw [← hlaid]; exact run_conv (laid w8.drew [0, 9, 9, eb]) (some ⟨w8.heap.size, 0, none⟩) 4 [0, 9, 9, eb] (laid_rd w8.drew _)
          have HE : Aside (∃ s o, Duo (fun _ => False) w (w8.alloc (.cells #[.int .u8 0, .int .u8 9, .int .u8 9, .int .u8 (2 * (ev : Int))] 5)).drew b pr s o ∧ RejIn s o true (i + 1)) := ⟨S'.output, o.put (n : Int) p.x, D8.out.beside be9, HIN.out⟩
          have HSV : Aside (∀ v, Below w8.heap.size w8 v → (fun v => v.cell? ⟨g8, o8, none⟩ = some (.slice B8 4 d8) ∧ (convert 39 9 (.slice B8 4 d8)).run Try.prog v = .ok (.string ⟨#[0, 9, 9, eb]⟩) v) v) := fun v hv => ⟨(hv.cell (World.block_lt_of_cell? w8 _ m8)).trans m8, run_conv v B8 d8 [0, 9, 9, eb] (rd8.below hv)⟩
          have HS8 := Lib.hid (HSV.out w8.drew ⟨rfl, rfl, rfl, Nat.le_refl _, fun _ _ => rfl⟩)
          have HS9 := Lib.hid (HSV.out (w8.alloc (.cells #[.int .u8 0, .int .u8 9, .int .u8 9, .int .u8 (2 * (ev : Int))] 5)).drew be9)
          have NX : Calls Try.prog 36 #[.pointer (some ⟨pr, 0, none⟩)] w8.drew fun e v' => e = .returned (.int .i64 (ev : Int)) ∧ v' = w8.drew := NX
          clear row8 R' HIN D8 heb hlaid heb2 rd8 m8 be9 HSV OC GC HX HR' HDR HRB HC hev2 k5
          go_wp2_with fail
          go_region_held (fun v => v.cell? ⟨g8, o8, none⟩ = some (.slice B8 4 d8) ∧ (convert 39 9 (.slice B8 4 d8)).run Try.prog v = .ok (.string ⟨#[0, 9, 9, eb]⟩) v) (first | exact HS8.out | exact HS9.out)
            (first | (go_at_call 36; (with_reducible refine NX.mono ?_); rintro e w9 ⟨rfl, hv⟩; obtain rfl := hv.symm))
          all_goals
            go_wp2
            go_roundg (L - (i + 1))
            case measure => omega
            case rel => exact ⟨i + 1, true, by go_num, rfl, by omega, Nat.le_refl _, HE⟩
        · -- False True True
          have hnw : rejNow o n p.x true = false := by unfold rejNow; rw [hgp, if_neg hP]; rfl
          have hnx : rejNext o n p.x true = true := by unfold rejNext; rw [hnw, if_neg hP]; rfl
          have GC := D6.gap
          rw [hgp] at GC
          have OC := D6.output
          rw [HR'.out.2.1, HDR.out.2.os, hnw, List.nil_append] at OC
          have hP' : ¬ (0 : Int) < pN := hPN.out ▸ hP
          have HX := Lib.hid hnx
          clear hnw hnx PC D6
          go_wp2_with fail
          refine GC.mono ?_
          rintro e w7 ⟨rfl, hv⟩
          obtain rfl := hv.symm
          go_wp2_with fail
          refine OC.mono ?_
          rintro e w8 ⟨A8, c8, K8, rfl, row8, D8⟩
          change RowP w8 K8 A8 c8 [[0, 9, 1, UInt8.ofNat (2 * (o.put (n : Int) p.x).e)]] at row8
          have R' := HR'.out.1
          rw [HX.out] at R'
          have hev : (o.put (n : Int) p.x).e < 128 := by have h1 := R'.ok.od.e9; have h2 := R'.ok.odm; rw [R'.m] at h2; rw [h2, R'.od] at h1; exact h1
          have HIN := Lib.hid (show RejIn S'.output (o.put (n : Int) p.x) true (i + 1) from ⟨⟨R'.ok.output, R'.st, R'.tg, R'.m, R'.f, R'.n, R'.l, R'.sz, R'.od, R'.rj⟩, rfl, by have := Od.put_all o (n : Int) p.x; omega, by show S'.is.length ≤ 1; rw [HR'.out.2.2.1]; exact HDR.out.2.is, HR'.out.2.2.2.1.trans HDR.out.2.sn, HR'.out.2.2.2.2.1.trans HDR.out.2.ak, HR'.out.2.2.2.2.2.trans HDR.out.2.lo⟩)
          have NX := (D8.drewN 1).next
          obtain ⟨g8, o8, B8, d8, rfl, m8, rd8, -⟩ := row8.at_ (i := 0) (by show 0 < 1; decide)
          have m8 : w8.cell? ⟨g8, o8, none⟩ = some (.slice B8 4 d8) := m8
          have D8 := Lib.hid (D8.less (H := fun _ => False) (fun _ h => h.elim))
          generalize hev2 : (o.put (n : Int) p.x).e = ev at *
          have heb : (2 * (ev : Int)) = ((UInt8.ofNat (2 * ev)).toNat : Int) := by rw [UInt8.toNat_ofNat', show (2 * ev) % 2 ^ 8 = 2 * ev by omega]; rfl
          have hlaid : laid w8.drew [0, 9, 1, UInt8.ofNat (2 * ev)] = (w8.alloc (.cells #[.int .u8 0, .int .u8 9, .int .u8 1, .int .u8 (2 * (ev : Int))] 5)).drew := by
            unfold laid bv
            rw [heb]
            rfl
          obtain ⟨eb, heb2⟩ : ∃ eb, UInt8.ofNat (2 * ev) = eb := ⟨_, rfl⟩
          have rd8 : Rd w8 B8 [0, 9, 1, UInt8.ofNat (2 * ev)] := rd8
          rw [heb2] at hlaid rd8
          have hwv : IntKind.u8.wrap (2 * (ev : Int)) = 2 * (ev : Int) := by rw [IntKind.wrap_u8]; omega
          have hw64 : IntKind.i64.wrap (2 * (ev : Int)) = 2 * (ev : Int) := by rw [IntKind.wrap_i64]; omega
          have be9 : Below w8.heap.size w8 (w8.alloc (.cells #[.int .u8 0, .int .u8 9, .int .u8 1, .int .u8 (2 * (ev : Int))] 5)).drew := ((Below.refl _ _).alloc (Nat.le_refl _) _).trans ⟨rfl, rfl, rfl, Nat.le_refl _, fun _ _ => rfl⟩
          have q9 : (convert 39 9 (.slice (some ⟨w8.heap.size, 0, none⟩) 4 4)).run Try.prog (w8.alloc (.cells #[.int .u8 0, .int .u8 9, .int .u8 1, .int .u8 (2 * (ev : Int))] 5)).drew = .ok (.string ⟨#[0, 9, 1, eb]⟩) (w8.alloc (.cells #[.int .u8 0, .int .u8 9, .int .u8 1, .int .u8 (2 * (ev : Int))] 5)).drew := by rw [← hlaid]; exact run_conv (laid w8.drew [0, 9, 1, eb]) (some ⟨w8.heap.size, 0, none⟩) 4 [0, 9, 1, eb] (laid_rd w8.drew _)
          have HE : Aside (∃ s o, Duo (fun _ => False) w (w8.alloc (.cells #[.int .u8 0, .int .u8 9, .int .u8 1, .int .u8 (2 * (ev : Int))] 5)).drew b pr s o ∧ RejIn s o true (i + 1)) := ⟨S'.output, o.put (n : Int) p.x, D8.out.beside be9, HIN.out⟩
          have HSV : Aside (∀ v, Below w8.heap.size w8 v → (fun v => v.cell? ⟨g8, o8, none⟩ = some (.slice B8 4 d8) ∧ (convert 39 9 (.slice B8 4 d8)).run Try.prog v = .ok (.string ⟨#[0, 9, 1, eb]⟩) v) v) := fun v hv => ⟨(hv.cell (World.block_lt_of_cell? w8 _ m8)).trans m8, run_conv v B8 d8 [0, 9, 1, eb] (rd8.below hv)⟩
          have HS8 := Lib.hid (HSV.out w8.drew ⟨rfl, rfl, rfl, Nat.le_refl _, fun _ _ => rfl⟩)
          have HS9 := Lib.hid (HSV.out (w8.alloc (.cells #[.int .u8 0, .int .u8 9, .int .u8 1, .int .u8 (2 * (ev : Int))] 5)).drew be9)
          have NX : Calls Try.prog 36 #[.pointer (some ⟨pr, 0, none⟩)] w8.drew fun e v' => e = .returned (.int .i64 (ev : Int)) ∧ v' = w8.drew := NX
          clear row8 R' HIN D8 heb hlaid heb2 rd8 m8 be9 HSV OC GC HX HR' HDR HRB HC hev2 k5
          go_wp2_with fail
          go_region_held (fun v => v.cell? ⟨g8, o8, none⟩ = some (.slice B8 4 d8) ∧ (convert 39 9 (.slice B8 4 d8)).run Try.prog v = .ok (.string ⟨#[0, 9, 1, eb]⟩) v) (first | exact HS8.out | exact HS9.out)
            (first | (go_at_call 36; (with_reducible refine NX.mono ?_); rintro e w9 ⟨rfl, hv⟩; obtain rfl := hv.symm))
          all_goals
            go_wp2
            go_roundg (L - (i + 1))
            case measure => omega
            case rel => exact ⟨i + 1, true, by go_num, rfl, by omega, Nat.le_refl _, HE⟩
    · have hiE : i = L := by omega
      subst hiE
      have g0 : ¬ (i : Int) < (i : Int) := by omega
      obtain ⟨s, o, D, R⟩ := HO.out
      have H1 : Aside (∃ s o, Duo (fun _ => False) w wr b pr s o ∧ s.od = o ∧ o.all ≤ 60) := ⟨s, o, D, R.rej.od, by have := R.all; omega⟩
      clear HO D R
      go_wp2_with fail
      go_loopg [] 60 (fun kx wr => ∃ o : Od, o.all ≤ kx ∧ o.all ≤ 60 ∧ Aside (∃ s, Duo (fun _ => False) w wr b pr s o ∧ s.od = o))
      case atStart =>
        obtain ⟨s, o, D, e1, e2⟩ := H1.out
        exact ⟨o, e2, e2, s, D, e1⟩
      case round =>
        clear H1
        obtain ⟨o, hall, hall2, HD⟩ := hrel
        obtain ⟨s, D, ho⟩ := HD.out
        have TC := D.take (by omega)
        clear HD D
        cases hr : o.r with
        | nil =>
          have hX : o.takeX = [] := by unfold Od.takeX; rw [hr]; rfl
          have hB : o.takeB = false := by unfold Od.takeB; rw [hr]; rfl
          rw [hX, hB] at TC
          go_wp2_with fail
          refine TC.mono ?_
          rintro e w6 ⟨A6, c6, rfl, -, D6⟩
          have RC := D6.recv
          rw [ho, hX, hB] at RC
          clear TC D6
          go_wp2_with fail
          refine RC.mono ?_
          rintro e w7 ⟨A7, c7, rfl, -, D7, -⟩
          have q6 : ∀ q, (convert 39 9 (.slice A6 0 c6)).run Try.prog (w7.drewN q) = .ok (.string ⟨#[]⟩) (w7.drewN q) := fun q => run_conv _ A6 c6 [] (Rd.nil _ _)
          have q7 : ∀ q, (convert 39 9 (.slice A7 0 c7)).run Try.prog (w7.drewN q) = .ok (.string ⟨#[]⟩) (w7.drewN q) := fun q => run_conv _ A7 c7 [] (Rd.nil _ _)
          have q6 : (convert 39 9 (.slice A6 0 c6)).run Try.prog w7 = .ok (.string ⟨#[]⟩) w7 := q6 0
          have q7 : (convert 39 9 (.slice A7 0 c7)).run Try.prog w7 = .ok (.string ⟨#[]⟩) w7 := q7 0
          have FI := Lib.hid D7.bel
          clear RC D7
          go_wp2
          go_ret
          exact ⟨rfl, FI.out⟩
        | cons x l =>
          have hX : o.takeX = x := by unfold Od.takeX; rw [hr]; rfl
          have hB : o.takeB = true := by unfold Od.takeB; rw [hr]; rfl
          have hta : o.take.all + 1 = o.all := by unfold Od.take Od.all; rw [hr]; simp; omega
          rw [hX, hB] at TC
          go_wp2_with fail
          refine TC.mono ?_
          rintro e w6 ⟨A6, c6, rfl, rd6, D6⟩
          have RC := D6.recv
          rw [ho, hX, hB] at RC
          clear TC D6
          go_wp2_with fail
          refine RC.mono ?_
          rintro e w7 ⟨A7, c7, rfl, rd7, D7, kp⟩
          have q6 : ∀ q, (convert 39 9 (.slice A6 x.length c6)).run Try.prog (w7.drewN q) = .ok (.string ⟨x.toArray⟩) (w7.drewN q) := fun q => run_conv _ A6 c6 x (kp _ _ rd6)
          have q7 : ∀ q, (convert 39 9 (.slice A7 x.length c7)).run Try.prog (w7.drewN q) = .ok (.string ⟨x.toArray⟩) (w7.drewN q) := fun q => run_conv _ A7 c7 x rd7
          have q6 : (convert 39 9 (.slice A6 x.length c6)).run Try.prog w7 = .ok (.string ⟨x.toArray⟩) w7 := q6 0
          have q7 : (convert 39 9 (.slice A7 x.length c7)).run Try.prog w7 = .ok (.string ⟨x.toArray⟩) w7 := q7 0
          have H7 : Aside (∃ s, Duo (fun _ => False) w w7 b pr s o.take ∧ s.od = o.take) := ⟨s.recv, D7, by rw [← ho]; rfl⟩
          clear RC D7 rd6 rd7 kp hr ho
          generalize (⟨x.toArray⟩ : ByteArray) = z at *
          generalize x.length = y at *
          go_wp2
          go_roundg (o.take.all)
          case measure => omega
          case rel => exact ⟨o.take, Nat.le_refl _, by omega, H7⟩
set_option maxRecDepth 20000 in
set_option maxHeartbeats 2000000 in
/-- outside the bounds -/
theorem ArqRejects_far (a0 : Int) (A : Option Addr) (len cap : Nat) (h : ¬ (1 ≤ a0 ∧ a0 ≤ 16 ∧ len ≤ 60)) (hlen : len ≤ 9223372036854775807) (w : World) :
    Calls Try.prog 9 #[.int .i64 a0, .slice A len cap] w fun e w' => e = .returned (.bool true) ∧ Below w.heap.size w w' := by
  have key : a0 < 1 ∨ (¬ a0 < 1 ∧ 16 < a0) ∨ (¬ a0 < 1 ∧ ¬ 16 < a0 ∧ (60 : Int) < (len : Int)) := by omega
  clear h
  rcases key with g1 | ⟨g1, g2⟩ | ⟨g1, g2, g3⟩
  all_goals
    go_enter Try.func9, Try.ntmps9
    go_wp2_with fail
    refine (alive_calls w).mono ?_
    rintro e V ⟨rfl, hb⟩
    go_wp2
    go_ret
    exact ⟨rfl, hb⟩
theorem ArqRejects_walk (a0 : Int) (A : Option Addr) (len cap : Nat) (w : World) (w0 : (Lit.int .i64 a0).wf = true) (h : IsActs w A len cap) :
    Calls Try.prog 9 #[.int .i64 a0, .slice A len cap] w fun e w' => e = .returned (.bool true) ∧ Below w.heap.size w w' := by
  obtain ⟨ls, rfl, h1, h2, hr⟩ := h
  by_cases hb : 1 ≤ a0 ∧ a0 ≤ 16 ∧ ls.length ≤ 60
  · obtain ⟨g1, g2, g3⟩ := hb
    obtain ⟨W, rfl⟩ : ∃ n : Nat, a0 = n := ⟨a0.toNat, by omega⟩
    exact ArqRejects_main W (by omega) (by omega) A cap ls w hr g3
  · exact ArqRejects_far a0 A ls.length cap hb (by unfold maxLen at h2; omega) w
end
end Go.Proofs.Ytdidmpimlodffaa

/- The law ArqLong, walked. No condition. -/
import Derived.Test.YtdidmpimlodffaaG15
import Derived.Test.YtdidmpimlodffaaAppZeros
namespace Go.Proofs.Ytdidmpimlodffaa
open Go.RowKit
set_option linter.unusedVariables false

def longC (z : Int) : Cf := ⟨0, 128, 4, 10, 3, 0, 0, 0, 4, z, 0, 0, 0, 0, false, false⟩
theorem long_shape {z : Nat} (h1 : 1 ≤ z) (h2 : z ≤ 1000) : (upS (longC z)).sz = z ∧ (upS (longC z)).m = 128 ∧ (upS (longC z)).tg = 1 ∧ (upS (longC z)).lg.f = 0 ∧ (upS (longC z)).od.e = 0 ∧ (upS (longC z)).od.k = [] ∧ (upS (longC z)).od.m = 128 ∧ (upS (longC z)).os = [] ∧ (upS (longC z)).lg.l = [] ∧ (upS (longC z)).lg.Q = 4 :=
  ⟨by show (min (max (z : Int) 1) 1000).toNat = z; omega, rfl, rfl, rfl, rfl, rfl, rfl, rfl, rfl, rfl⟩
theorem long_enc : enc 0 0 0 false 128 = [0, 0] ∧ enc 7 0 0 false 128 = [135] ∧ enc 1 0 1 false 128 = [1, 2] := by decide +kernel
theorem long_giveE {s : Aq} (hst : s.st = 2) (hl : s.lg.l = []) (hQ : 1 ≤ s.lg.Q) (x : List UInt8) : s.giveE x = if s.sz < x.length then 5 else 0 := by
  unfold Aq.giveE
  split
  · rfl
  · rw [if_neg (by rw [hst]; simp)]
    unfold Lg.addE Lg.full
    rw [hl, if_neg (by simp; omega)]
theorem long_proc {s : Aq} (h : s.Rest) (hm : s.m = 128) (htg : s.tg = 1) (x : List UInt8) : s.input ([0, 1, 0, 0] ++ x) = if s.sz < x.length then (s.send 7 false).fin else s.exch 0 0 0 false x := by
  have e : ([0, 1, 0, 0] : List UInt8) = Aq.hd 1 ++ enc 0 ((0 : Nat) : Int) ((0 : Nat) : Int) false (s.m : Int) := by
    rw [hm]
    show _ = Aq.hd 1 ++ enc 0 0 0 false 128
    rw [long_enc.1]
    rfl
  rw [e, Aq.input_enc (s := s) (by decide) (Aq.right_I (.inl hm) (by omega) (by omega))]
  unfold Aq.proc
  rw [if_neg (by decide), if_neg (by decide), if_neg (by decide), if_neg (by decide), if_neg (by decide)]
  unfold Aq.numbd
  rw [if_neg (by rw [h.st]; decide), if_pos ⟨htg.symm, h.st⟩]
  by_cases hx : s.sz < x.length
  · rw [if_pos ⟨rfl, hx⟩, if_pos hx]
  · rw [if_neg (fun h => hx h.2), if_neg hx]
    rfl
theorem long_bad {s : Aq} (hm : s.m = 128) (htg : s.tg = 1) (ho : s.os = []) : (s.send 7 false).fin.os = [[0, 1, 135]] ∧ (s.send 7 false).fin.st = 0 := by
  refine ⟨?_, rfl⟩
  show s.os ++ [Aq.hd s.tg ++ enc 7 0 (s.nrOf 7) false s.m ++ []] = _
  have e : s.nrOf 7 = 0 := by unfold Aq.nrOf; rw [if_neg (by decide)]
  have e2 : enc 7 0 0 false ((128 : Nat) : Int) = [135] := long_enc.2.1
  rw [ho, htg, hm, e, e2]
  rfl
theorem long_exch {s : Aq} (h : s.Rest) (hm : s.m = 128) (htg : s.tg = 1) (ho : s.os = []) (he : s.od.e = 0) (hk : s.od.k = []) (hom : s.od.m = 128) (x : List UInt8) : (s.exch 0 0 0 false x).os = [[0, 1, 1, 2]] ∧ (s.exch 0 0 0 false x).st = 2 := by
  have ha : s.acks 0 = s := by
    have := Aq.acks_none (s := s) (by rw [h.f]; have := h.ok.lg.f9; omega)
    rw [h.f] at this
    exact this
  have hn := Aq.take_next h.ok hk x false
  rw [he] at hn
  have hn : s.take 0 x false = _ := hn
  have e : s.exch 0 0 0 false x = ({ s with od := ⟨s.od.m, s.od.W, (0 + 1) % s.od.m, [], s.od.r ++ [x]⟩, rj := false } : Aq).send 1 false := by
    unfold Aq.exch
    rw [if_pos rfl, if_neg (by simp), ha, hn]
    exact Aq.pump_none (by show s.lg.n = s.lg.l.length; rw [h.n, h.l]; rfl)
  rw [e]
  refine ⟨?_, h.st⟩
  show s.os ++ [Aq.hd s.tg ++ enc 1 0 (Aq.nrOf _ 1) false s.m ++ []] = _
  have e1 : Aq.nrOf ({ s with od := ⟨s.od.m, s.od.W, (0 + 1) % s.od.m, [], s.od.r ++ [x]⟩, rj := false } : Aq) 1 = 1 := by
    unfold Aq.nrOf
    rw [if_pos (.inl rfl)]
    show (((0 + 1) % s.od.m : Nat) : Int) = 1
    rw [hom]
    rfl
  have e2 : enc 1 0 1 false ((128 : Nat) : Int) = [1, 2] := long_enc.2.2
  rw [e1, ho, htg, hm, e2]
  rfl
section
variable {w v v' : World} {H : Nat → Prop}
set_option maxRecDepth 20000 in
set_option maxHeartbeats 4000000 in
theorem ArqLong_main (z n : Nat) (h1 : 1 ≤ z) (h2 : z ≤ 1000) (h3 : n ≤ 1100) (w : World) :
    Calls Try.prog 12 #[.int .i64 (z : Int), .int .i64 (n : Int)] w fun e w' => e = .returned (.bool true) ∧ Below w.heap.size w w' := by
  have i1 : decide ((z : Int) < 1) = false := decide_eq_false (by omega)
  have i2 : decide ((1000 : Int) < (z : Int)) = false := decide_eq_false (by omega)
  have i3 : decide ((n : Int) < 0) = false := decide_eq_false (by omega)
  have i4 : decide ((1100 : Int) < (n : Int)) = false := decide_eq_false (by omega)
  have j1 : ¬ (z : Int) < 1 := by omega
  have j2 : ¬ (1000 : Int) < (z : Int) := by omega
  have j3 : ¬ (n : Int) < 0 := by omega
  have j4 : ¬ (1100 : Int) < (n : Int) := by omega
  have UC := fun (v : World) (bel : Below w.heap.size w v) => up_calls (longC z) bel
  unfold cfv cfc longC at UC
  have HU := Lib.hid UC
  have his : (upS (longC z)).is.length ≤ 990000 ∧ (upS (longC z)).od.all ≤ 990000 ∧ (upS (longC z)).ak ≤ 100000000000 ∧ (upS (longC z)).lo ≤ 100000000000 := ⟨Nat.zero_le _, Nat.zero_le _, Nat.zero_le _, Nat.zero_le _⟩
  clear UC
  go_enter Try.func12, Try.ntmps12
  go_wp2_with fail
  refine (alive_calls w).mono ?_
  rintro e V ⟨rfl, hb⟩
  have HB := Lib.hid hb
  clear hb
  have SC := shape_calls 128 4 4 V
  unfold cfv cfc shapeC at SC
  go_wp2_with fail
  refine SC.mono ?_
  rintro e w1 ⟨rfl, be1⟩
  have HB1 := Lib.hid (HB.out.trans (be1.mono HB.out.size))
  clear SC HB be1
  go_wp2_with fail
  refine (HU.out _ (HB1.out.alloc HB1.out.size _)).mono ?_
  rintro e w2 ⟨P, b, rfl, o⟩
  obtain ⟨e1, e2, e3, e4, e5, e6, e7, e8, e9, e10⟩ := long_shape h1 h2
  have hRest := upS_rest (longC z)
  change PrOne _ w w2 P b (upP (longC z)) at o
  have hsf : ∀ i, (upP (longC z)).a i = upS (longC z) := fun _ => rfl
  clear HU HB1
  generalize upP (longC z) = p0 at *
  generalize upS (longC z) = s at *
  have k0 : w2.cell? ⟨P, 0, none⟩ = some (.pointer (some ⟨b false, 0, none⟩)) := o.ptr false
  have qm := run_made n (by omega) w2.drew
  obtain ⟨W3, hW3⟩ : ∃ W3, laid w2.drew (List.replicate n 0) = W3 := ⟨_, rfl⟩
  have be3 : Below w2.drew.heap.size w2.drew W3 := by rw [← hW3]; exact laid_below _ _
  have k3 : W3.cell? ⟨P, 0, none⟩ = some (.pointer (some ⟨b false, 0, none⟩)) := (((o.drewN 1).beside be3).ptr false)
  have rd3 : Rd W3 (some ⟨w2.heap.size, 0, none⟩) (List.replicate n 0) := by rw [← hW3]; exact laid_rd w2.drew _
  have SN := ((o.drewN 1).beside be3).send false (by rw [hsf, e8]; show 0 + (s.lg.W - _) ≤ _; have := hRest.ok.lg.w8; have := hRest.ok.lg.m9; omega) (by rw [hsf, hRest.sn]; exact Nat.zero_le _) (some ⟨w2.heap.size, 0, none⟩) n (List.replicate n 0) rd3 (by rw [List.length_replicate]; omega)
  rw [hsf, long_giveE hRest.st e9 (by rw [e10]; decide), e1, List.length_replicate] at SN
  rw [hW3] at qm
  have qm : (Instr.makeSlice 39 (.int .i64 (n : Int)) (.int .i64 (n : Int))).run Try.prog w2.drew = .ok (.slice (some ⟨w2.heap.size, 0, none⟩) n n) W3 := qm
  clear o be3 rd3 hW3
  have HIS := Lib.hid his
  clear his
  by_cases hzn : z < n
  · rw [if_pos hzn] at SN
    have gz : (z : Int) < (n : Int) := by omega
    have hI : s.input ([0, 1, 0, 0] ++ List.replicate n 0) = (s.send 7 false).fin := (by have := long_proc hRest e2 e3 (List.replicate n 0); rw [List.length_replicate, e1, if_pos hzn] at this; exact this)
    obtain ⟨a1, a2⟩ := long_bad e2 e3 e8
    generalize (s.send 7 false).fin = S at *
    have HSF := Lib.hid (And.intro hsf (And.intro hI (And.intro a1 (And.intro a2 (show s.Room from ⟨by rw [e8]; exact Nat.zero_le _, HIS.out.1, HIS.out.2.1, by rw [hRest.sn]; exact Nat.zero_le _, HIS.out.2.2.1, HIS.out.2.2.2⟩)))))
    have NM := fun v => num_calls 5 v
    clear hRest e1 e2 e3 e4 e5 e6 e7 e8 e9 e10 hsf hI a1 a2 HIS
    go_wp2_with fail
    go_region_law (first
      | (go_simp; go_at_call 19; refine SN.mono ?_; rintro e w4 ⟨rfl, h4, -, -⟩; have HH4 := Lib.hid h4; clear h4))
    all_goals
      clear SN k0 k3 qm
      have k4 : w4.cell? ⟨P, 1, none⟩ = some (.pointer (some ⟨b true, 0, none⟩)) := HH4.out.ptr true
      obtain ⟨A, c, W6, c1, c2, r6, rd6, be6, bk6⟩ := head_zeros w4 [0, 1, 0, 0] rfl n h3
      have k4b : (w4.alloc (.cells #[.int .u8 0, .int .u8 1, .int .u8 0, .int .u8 0] 5)).cell? ⟨P, 1, none⟩ = some (.pointer (some ⟨b true, 0, none⟩)) := (World.cell?_alloc_some w4 _ _ (by rw [k4]; rfl)).trans k4
      have h6 := HH4.out.grow be6
      have k6 : W6.cell? ⟨P, 1, none⟩ = some (.pointer (some ⟨b true, 0, none⟩)) := h6.ptr true
      have hlen : ([0, 1, 0, 0] ++ List.replicate n (0 : UInt8)).length = 4 + n := by rw [List.length_append, List.length_replicate]; rfl
      have r6 : ∀ ty, (Builtin.append_ #[39, 3] ty #[.slice (some ⟨w4.heap.size, 0, none⟩) 4 4, .int .i64 (n : Int)]).run Try.prog (w4.alloc (.cells #[.int .u8 0, .int .u8 1, .int .u8 0, .int .u8 0] 5)).drew = .ok (.slice A (4 + n) c) W6 := r6
      have IN := h6.input true (by show (p0.a true).Room; rw [HSF.out.1]; exact HSF.out.2.2.2.2) A c ([0, 1, 0, 0] ++ List.replicate n 0) rd6 (by rw [hlen]; omega) (by rw [hlen]; exact c1) (by unfold maxLen at c2; omega) (fun k hk => .inr (bk6 k hk))
      rw [hlen] at IN
      have IN2 := IN.mono (show ∀ r v', _ → r = .returned (.tuple #[]) ∧ PrOne (fun _ => False) w v' P b ((p0.setA false (s.give (List.replicate n 0))).setA true S) from fun r v' hh => ⟨hh.1, by
        have := hh.2.1.less (G := fun _ => False) (fun _ h => h.elim)
        rw [show ((p0.setA false (s.give (List.replicate n 0))).a true).input ([0, 1, 0, 0] ++ List.replicate n 0) = S from by show (p0.a true).input _ = S; rw [HSF.out.1]; exact HSF.out.2.1] at this
        exact this⟩)
      clear h6 rd6 be6 bk6 IN hlen c1 c2 HH4
      go_wp2_with fail
      go_region_law (first
        | (go_simp; go_at_call 32; refine IN2.mono ?_; rintro e w7 ⟨rfl, h7⟩; have HH7 := Lib.hid h7; clear h7)
        | ((with_reducible refine step_append_run _ ?_ (.tmp 48) (.tmp 49) _ _ ?_ _ _ ?_ ?_ _ _ (r6 _) ?_); rfl; rfl; (focus (first | (simp [Act.eval]; done) | (simp [Act.eval, Act.put]; done))); (focus (first | (simp [Act.eval]; done) | (simp [Act.eval, Act.put]; done)))))
      all_goals
        clear IN2 r6 k6 k4b k4
        have k7 : w7.cell? ⟨P, 1, none⟩ = some (.pointer (some ⟨b true, 0, none⟩)) := HH7.out.ptr true
        have OC := HH7.out.output true
        rw [show ((p0.setA false (s.give (List.replicate n 0))).setA true S).a true = S from rfl, HSF.out.2.2.1, Pr.setA_twice] at OC
        go_wp2_with fail
        refine OC.mono ?_
        rintro e w8 ⟨A8, c8, G8, rfl, row8, h8, -, -, -⟩
        obtain ⟨g8, o8, B8, d8, rfl, m8, rd8, -⟩ := row8.at_ (i := 0) (by show 0 < 1; decide)
        have m8 : w8.cell? ⟨g8, o8, none⟩ = some (.slice B8 3 d8) := m8
        have k8 : w8.cell? ⟨P, 1, none⟩ = some (.pointer (some ⟨b true, 0, none⟩)) := h8.ptr true
        have ST := h8.state true
        rw [show (((p0.setA false (s.give (List.replicate n 0))).setA true S.output).a true).st = S.st from rfl, HSF.out.2.2.2.1] at ST
        have q8 : (convert 39 9 (.slice B8 3 d8)).run Try.prog w8 = .ok (.string ⟨#[0, 1, 135]⟩) w8 := run_conv w8 B8 d8 [0, 1, 135] rd8
        have FI := Lib.hid h8.bel
        clear OC row8 h8 rd8 k7 HH7
        go_wp2_with fail
        refine (NM _).mono ?_
        rintro e w9 ⟨rfl, hv⟩
        obtain rfl := hv.symm
        go_wp2_with fail
        refine ST.mono ?_
        rintro e w9 ⟨rfl, hv⟩
        obtain rfl := hv.symm
        go_wp2
        go_ret
        exact ⟨rfl, FI.out⟩
  · rw [if_neg hzn] at SN
    have gz : ¬ (z : Int) < (n : Int) := by omega
    have hI : s.input ([0, 1, 0, 0] ++ List.replicate n 0) = s.exch 0 0 0 false (List.replicate n 0) := (by have := long_proc hRest e2 e3 (List.replicate n 0); rw [List.length_replicate, e1, if_neg hzn] at this; exact this)
    obtain ⟨a1, a2⟩ := long_exch hRest e2 e3 e8 e5 e6 e7 (List.replicate n 0)
    generalize s.exch 0 0 0 false (List.replicate n 0) = S at *
    have HSF := Lib.hid (And.intro hsf (And.intro hI (And.intro a1 (And.intro a2 (show s.Room from ⟨by rw [e8]; exact Nat.zero_le _, HIS.out.1, HIS.out.2.1, by rw [hRest.sn]; exact Nat.zero_le _, HIS.out.2.2.1, HIS.out.2.2.2⟩)))))
    have NM := fun v => num_calls 0 v
    clear hRest e1 e2 e3 e4 e5 e6 e7 e8 e9 e10 hsf hI a1 a2 HIS
    go_wp2_with fail
    go_region_law (first
      | (go_simp; go_at_call 19; refine SN.mono ?_; rintro e w4 ⟨rfl, h4, -, -⟩; have HH4 := Lib.hid h4; clear h4))
    all_goals
      clear SN k0 k3 qm
      have k4 : w4.cell? ⟨P, 1, none⟩ = some (.pointer (some ⟨b true, 0, none⟩)) := HH4.out.ptr true
      obtain ⟨A, c, W6, c1, c2, r6, rd6, be6, bk6⟩ := head_zeros w4 [0, 1, 0, 0] rfl n h3
      have k4b : (w4.alloc (.cells #[.int .u8 0, .int .u8 1, .int .u8 0, .int .u8 0] 5)).cell? ⟨P, 1, none⟩ = some (.pointer (some ⟨b true, 0, none⟩)) := (World.cell?_alloc_some w4 _ _ (by rw [k4]; rfl)).trans k4
      have h6 := HH4.out.grow be6
      have k6 : W6.cell? ⟨P, 1, none⟩ = some (.pointer (some ⟨b true, 0, none⟩)) := h6.ptr true
      have hlen : ([0, 1, 0, 0] ++ List.replicate n (0 : UInt8)).length = 4 + n := by rw [List.length_append, List.length_replicate]; rfl
      have r6 : ∀ ty, (Builtin.append_ #[39, 3] ty #[.slice (some ⟨w4.heap.size, 0, none⟩) 4 4, .int .i64 (n : Int)]).run Try.prog (w4.alloc (.cells #[.int .u8 0, .int .u8 1, .int .u8 0, .int .u8 0] 5)).drew = .ok (.slice A (4 + n) c) W6 := r6
      have IN := h6.input true (by show (p0.a true).Room; rw [HSF.out.1]; exact HSF.out.2.2.2.2) A c ([0, 1, 0, 0] ++ List.replicate n 0) rd6 (by rw [hlen]; omega) (by rw [hlen]; exact c1) (by unfold maxLen at c2; omega) (fun k hk => .inr (bk6 k hk))
      rw [hlen] at IN
      have IN2 := IN.mono (show ∀ r v', _ → r = .returned (.tuple #[]) ∧ PrOne (fun _ => False) w v' P b ((p0.setA false (s.give (List.replicate n 0))).setA true S) from fun r v' hh => ⟨hh.1, by
        have := hh.2.1.less (G := fun _ => False) (fun _ h => h.elim)
        rw [show ((p0.setA false (s.give (List.replicate n 0))).a true).input ([0, 1, 0, 0] ++ List.replicate n 0) = S from by show (p0.a true).input _ = S; rw [HSF.out.1]; exact HSF.out.2.1] at this
        exact this⟩)
      clear h6 rd6 be6 bk6 IN hlen c1 c2 HH4
      go_wp2_with fail
      go_region_law (first
        | (go_simp; go_at_call 32; refine IN2.mono ?_; rintro e w7 ⟨rfl, h7⟩; have HH7 := Lib.hid h7; clear h7)
        | ((with_reducible refine step_append_run _ ?_ (.tmp 48) (.tmp 49) _ _ ?_ _ _ ?_ ?_ _ _ (r6 _) ?_); rfl; rfl; (focus (first | (simp [Act.eval]; done) | (simp [Act.eval, Act.put]; done))); (focus (first | (simp [Act.eval]; done) | (simp [Act.eval, Act.put]; done)))))
      all_goals
        clear IN2 r6 k6 k4b k4
        have k7 : w7.cell? ⟨P, 1, none⟩ = some (.pointer (some ⟨b true, 0, none⟩)) := HH7.out.ptr true
        have OC := HH7.out.output true
        rw [show ((p0.setA false (s.give (List.replicate n 0))).setA true S).a true = S from rfl, HSF.out.2.2.1, Pr.setA_twice] at OC
        go_wp2_with fail
        refine OC.mono ?_
        rintro e w8 ⟨A8, c8, G8, rfl, row8, h8, -, -, -⟩
        obtain ⟨g8, o8, B8, d8, rfl, m8, rd8, -⟩ := row8.at_ (i := 0) (by show 0 < 1; decide)
        have m8 : w8.cell? ⟨g8, o8, none⟩ = some (.slice B8 4 d8) := m8
        have k8 : w8.cell? ⟨P, 1, none⟩ = some (.pointer (some ⟨b true, 0, none⟩)) := h8.ptr true
        have ST := h8.state true
        rw [show (((p0.setA false (s.give (List.replicate n 0))).setA true S.output).a true).st = S.st from rfl, HSF.out.2.2.2.1] at ST
        have q8 : (convert 39 9 (.slice B8 4 d8)).run Try.prog w8 = .ok (.string ⟨#[0, 1, 1, 2]⟩) w8 := run_conv w8 B8 d8 [0, 1, 1, 2] rd8
        have FI := Lib.hid h8.bel
        clear OC row8 h8 rd8 k7 HH7
        go_wp2_with fail
        refine (NM _).mono ?_
        rintro e w9 ⟨rfl, hv⟩
        obtain rfl := hv.symm
        go_wp2_with fail
        refine ST.mono ?_
        rintro e w9 ⟨rfl, hv⟩
        obtain rfl := hv.symm
        go_wp2
        go_ret
        exact ⟨rfl, FI.out⟩
set_option maxRecDepth 20000 in
set_option maxHeartbeats 2000000 in
/-- outside the bounds -/
theorem ArqLong_far (a0 a1 : Int) (h : ¬ (1 ≤ a0 ∧ a0 ≤ 1000 ∧ 0 ≤ a1 ∧ a1 ≤ 1100)) (w : World) :
    Calls Try.prog 12 #[.int .i64 a0, .int .i64 a1] w fun e w' => e = .returned (.bool true) ∧ Below w.heap.size w w' := by
  have key : a0 < 1 ∨ (¬ a0 < 1 ∧ 1000 < a0) ∨ (¬ a0 < 1 ∧ ¬ 1000 < a0 ∧ a1 < 0) ∨ (¬ a0 < 1 ∧ ¬ 1000 < a0 ∧ ¬ a1 < 0 ∧ 1100 < a1) := by omega
  clear h
  rcases key with g1 | ⟨g1, g2⟩ | ⟨g1, g2, g3⟩ | ⟨g1, g2, g3, g4⟩
  all_goals
    go_enter Try.func12, Try.ntmps12
    go_wp2_with fail
    refine (alive_calls w).mono ?_
    rintro e V ⟨rfl, hb⟩
    go_wp2
    go_ret
    exact ⟨rfl, hb⟩
theorem ArqLong_walk (a0 a1 : Int) (w0 : (Lit.int .i64 a0).wf = true) (w1 : (Lit.int .i64 a1).wf = true) (w : World) :
    Calls Try.prog 12 #[.int .i64 a0, .int .i64 a1] w fun e w' => e = .returned (.bool true) ∧ Below w.heap.size w w' := by
  by_cases h : 1 ≤ a0 ∧ a0 ≤ 1000 ∧ 0 ≤ a1 ∧ a1 ≤ 1100
  · obtain ⟨h1, h2, h3, h4⟩ := h
    obtain ⟨z, rfl⟩ : ∃ n : Nat, a0 = n := ⟨a0.toNat, by omega⟩
    obtain ⟨n, rfl⟩ : ∃ n : Nat, a1 = n := ⟨a1.toNat, by omega⟩
    exact ArqLong_main z n (by omega) (by omega) (by omega) w
  · exact ArqLong_far a0 a1 h w
end
end Go.Proofs.Ytdidmpimlodffaa

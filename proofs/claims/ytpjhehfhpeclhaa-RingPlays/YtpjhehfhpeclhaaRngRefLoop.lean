/- Take of a ring of the reference, walked. Condition: the number is one of 64 bits. -/
import Derived.Test.YtpjhehfhpeclhaaRngRefTake
namespace Go.Proofs.Ytpjhehfhpeclhaa
open Go.RowKit
set_option linter.unusedVariables false

section
variable {w : World} {F : Nat → Prop} {b : Nat} {s : Rng}
/-- the call returns a slice that reads as l -/
def GaveR (l : List UInt8) (e : Ending) (w' : World) : Prop := ∃ A c, e = .returned (.slice A l.length c) ∧ Rd w' A l
/-- how it stands in the loop: what is left to take, what was taken -/
def TL (w : World) (F : Nat → Prop) (b R D : Nat) (res : List UInt8) (fin : List (List UInt8) × Bool) (wr : World) (n : Int) (l : List (List UInt8)) (bg : Bool) (out : List UInt8) (A : Option Addr) (c : Nat) : Prop :=
  RawR wr F b R l bg D ∧ Only F w wr ∧ Mid wr A c out ∧ (∀ k, blk A = some k → w.heap.size ≤ k) ∧ out ++ l.flatten.take (lim n l.flatten.length) = res ∧ tk l (lim n l.flatten.length) bg = fin ∧ (∀ x ∈ l, x ≠ []) ∧ out.length + l.flatten.length ≤ 1048576 ∧ ∀ k, F k → k < w.heap.size
set_option maxRecDepth 20000 in
set_option maxHeartbeats 1000000 in
theorem takeR_calls (h : PX w F b s) (n : Int) (hn : n ≤ 9223372036854775807) :
    Calls Try.prog 13 #[.pointer (some ⟨b, 0, none⟩), .int .i64 n] w fun e w' => GaveR (s.takeL n) e w' ∧ PX w' F b (s.take n) ∧ Only F w w' := by
  obtain ⟨hl1, hl2⟩ := h.lens
  have H0 : Aside (TL w F b s.R s.D (s.takeL n) (tk s.l (lim n s.o.length) s.beg) w n s.l s.beg [] none 0) := ⟨h.1, Only.refl _ _, Mid.nil _, fun k hk => by simp [blk] at hk, rfl, rfl, h.2.2.2.2.1, by simpa using hl1, h.lt⟩
  have LAST := Lib.hid (show ∀ w', RawR w' F b s.R (tk s.l (lim n s.o.length) s.beg).1 (tk s.l (lim n s.o.length) s.beg).2 s.D → PX w' F b (s.take n) from fun w' raw => ⟨raw, h.2.take n⟩)
  obtain ⟨res, hres⟩ : ∃ res, res = s.takeL n := ⟨_, rfl⟩
  obtain ⟨fin, hfin⟩ : ∃ fin, fin = tk s.l (lim n s.o.length) s.beg := ⟨_, rfl⟩
  rw [← hres, ← hfin] at H0
  rw [← hfin] at LAST
  rw [← hres]
  obtain ⟨s2, hs2⟩ : ∃ s2, s2 = s.take n := ⟨_, rfl⟩
  rw [← hs2] at LAST ⊢
  clear h hres hfin hs2 hl1
  generalize s.R = R at *
  generalize s.D = D at *
  generalize s.l = l0 at *
  generalize s.beg = b0 at *
  go_enter Try.func13, Try.ntmps13
  go_wp2_with fail
  go_loopg [1, 5] (l0.length + 1) (fun kx s1 s5 wr => ∃ (n' : Int) (l : List (List UInt8)) (bg : Bool) (out : List UInt8) (A : Option Addr) (c : Nat), s1 = .int .i64 n' ∧ s5 = .slice A out.length c ∧ (0 < n' → l.length + 1 ≤ kx) ∧ n' ≤ 9223372036854775807 ∧ Aside (TL w F b R D res fin wr n' l bg out A c))
  case atStart => exact ⟨n, l0, b0, [], none, 0, rfl, rfl, fun _ => Nat.le_refl _, hn, H0.out⟩
  case round =>
    clear H0 hn
    obtain ⟨n', l, bg, out, A, c, rfl, rfl, hkx, hn', HO⟩ := hrel
    by_cases hpos : 0 < n'
    · have hkx := hkx hpos
      cases l with
      | nil =>
        obtain ⟨h1, h2, h3, h4, h5, h6, h7, h8, h9⟩ := HO.out
        have hout : out = res := by rw [← h5]; simp
        have FI := Lib.hid (show GaveR res (Ending.returned (.slice A out.length c)) wr ∧ PX wr F b s2 ∧ Only F w wr from ⟨⟨A, c, by rw [hout], by rw [← hout]; exact h3.rd⟩, LAST.out wr (by rw [← h6]; exact h1), h2⟩)
        obtain ⟨Ar, cr, vs, hb, _⟩ := h1
        have q1 := (qcell hb).2.1
        rw [List.length_nil] at q1
        clear HO h2 h3 h4 h5 h6 h7 h8 h9 hb hout LAST
        generalize out.length = m at *
        go_wp2
        go_ret
        exact FI.out
      | cons x l2 =>
        obtain ⟨h1, h2, h3, h4, h5, h6, h7, h8, h9⟩ := HO.out
        have hx := h7 x (List.mem_cons_self ..)
        have hxp := List.length_pos_iff.2 hx
        have h7' : ∀ y ∈ l2, y ≠ [] := fun y hy => h7 y (List.mem_cons_of_mem _ hy)
        rw [List.flatten_cons, List.length_append] at h8
        have hll : l2.length ≤ 1048576 := by have := Rng.lens_le l2 h7'; omega
        obtain ⟨g, off, cr, gB, offB, d, ⟨hd1, hd2, hc1, hc2, hgb⟩, MEM⟩ := round_mem h1 hx
        unfold maxLen at hd2 hc2
        obtain ⟨⟨q1, q2, q3, _, _, _, qr⟩, _, _⟩ := MEM wr (fun _ => False) (Only.refl _ _) (fun _ _ h => h)
        have hgb' : ¬ g = b := fun e => hgb e.symm
        have hFA : ∀ k, F k → ¬ blk A = some k := fun k hk e => by have := h9 k hk; have := h4 k e; omega
        simp only [List.length_cons] at hkx
        by_cases hfull : (x.length : Int) ≤ n'
        · have CT := cutR_calls n' 0 (x.length : Int) (by omega) wr
          rw [show min (max n' 0) (x.length : Int) = (x.length : Int) by omega] at CT
          obtain ⟨A1, c1, w1, r1, m1, on1, kin1⟩ := h3.app (some ⟨gB, offB, none⟩) d x qr (by omega)
          obtain ⟨⟨p1, p2, p3, z1, z2, z3, _⟩, _, LST⟩ := MEM w1 (fun k => blk A = some k) on1 hFA
          obtain ⟨t1, t2⟩ := tk_whole hx hfull l2 bg
          have OF1 : Only F w w1 := h2.trans on1 (fun k hk e => by have := h4 k e; omega)
          have FIN : Aside (∀ v, TL w F b R D res fin ((((((w1.setCell ⟨g, off, none⟩ v)).drew.setCell ⟨b, 2, none⟩ (.bool true)).setCell ⟨b, 1, none⟩ (.slice (if cr = 1 then some ⟨g, off, none⟩ else some ⟨g, off + 1, none⟩) l2.length (cr - 1))).setCell ⟨b, 2, none⟩ (.bool false))) (n' - (x.length : Int)) l2 false (out ++ x) A1 c1) := fun v => by
            obtain ⟨raw, on2⟩ := LST v
            have hm : Mid _ A1 c1 (out ++ x) := m1.only on2 (fun k hk hF => by
              rcases kin1 k hk with h | h
              · exact hFA k hF h
              · have := h9 k hF; have := h2.size; omega)
            have on3 := OF1.trans on2 (fun _ _ h => h)
            refine ⟨raw.drewN 1, ⟨on3.os, on3.tape, on3.output, on3.size, on3.block⟩, hm.drewN 1, fun k hk => (kin1 k hk).elim (h4 k) (fun h => Nat.le_trans h2.size h), ?_, ?_, h7', ?_, h9⟩
            · rw [List.append_assoc, ← t2]; exact h5
            · rw [← t1]; exact h6
            · rw [List.length_append]; omega
          clear HO h1 h2 h3 h4 h5 h6 h7 h9 MEM LST t1 t2 OF1 m1 on1 kin1 qr hFA h7' LAST
          have hw : wrap64 (n' - (x.length : Int)) = n' - (x.length : Int) := by unfold wrap64; omega
          have hx0 : (0 : Int) ≤ (x.length : Int) := by omega
          have hxd : (x.length : Int) ≤ (d : Int) := by omega
          have hcz : (1 : Int) ≤ (cr : Int) := by omega
          rw [List.length_append] at r1
          by_cases hcr : cr = 1
          · subst hcr
            have hl0 : l2.length = 0 := by omega
            simp only [hl0, if_true, Nat.zero_add, Nat.sub_self] at FIN q1 p1
            by_cases hdx : d = x.length
            · subst hdx
              go_wp2_with fail
              refine CT.mono ?_
              rintro e v9 ⟨rfl, rfl⟩
              go_upto_region 6 with (at_builtin; refine Lib.wpList_append_run _ rfl _ _ _ _ rfl _ _ rfl rfl _ _ (r1 _) ?_)
              clear q1 q2 q3
              go_region
              go_wp2
              go_roundg 1
              case measure => omega
              case rel => exact ⟨_, l2, false, out ++ x, A1, c1, rfl, by rw [List.length_append], fun _ => by omega, by omega, FIN.out _⟩
            · have hdx' : ¬ d - x.length = 0 := by omega
              go_wp2_with fail
              refine CT.mono ?_
              rintro e v9 ⟨rfl, rfl⟩
              go_upto_region 6 with (at_builtin; refine Lib.wpList_append_run _ rfl _ _ _ _ rfl _ _ rfl rfl _ _ (r1 _) ?_)
              clear q1 q2 q3
              go_region
              go_wp2
              go_roundg 1
              case measure => omega
              case rel => exact ⟨_, l2, false, out ++ x, A1, c1, rfl, by rw [List.length_append], fun _ => by omega, by omega, FIN.out _⟩
          · simp only [hcr, if_false] at FIN
            by_cases hdx : d = x.length
            · subst hdx
              go_wp2_with fail
              refine CT.mono ?_
              rintro e v9 ⟨rfl, rfl⟩
              go_upto_region 6 with (at_builtin; refine Lib.wpList_append_run _ rfl _ _ _ _ rfl _ _ rfl rfl _ _ (r1 _) ?_)
              clear q1 q2 q3
              go_region
              go_wp2
              go_roundg (l2.length + 1)
              case measure => omega
              case rel => exact ⟨_, l2, false, out ++ x, A1, c1, rfl, by rw [List.length_append], fun _ => Nat.le_refl _, by omega, FIN.out _⟩
            · have hdx' : ¬ d - x.length = 0 := by omega
              go_wp2_with fail
              refine CT.mono ?_
              rintro e v9 ⟨rfl, rfl⟩
              go_upto_region 6 with (at_builtin; refine Lib.wpList_append_run _ rfl _ _ _ _ rfl _ _ rfl rfl _ _ (r1 _) ?_)
              clear q1 q2 q3
              go_region
              go_wp2
              go_roundg (l2.length + 1)
              case measure => omega
              case rel => exact ⟨_, l2, false, out ++ x, A1, c1, rfl, by rw [List.length_append], fun _ => Nat.le_refl _, by omega, FIN.out _⟩
        · obtain ⟨k, rfl⟩ : ∃ k : Nat, n' = (k : Int) := ⟨n'.toNat, by omega⟩
          have hk0 : 0 < k := by omega
          have hkx' : k < x.length := by omega
          have CT := cutR_calls (k : Int) 0 (x.length : Int) (by omega) wr
          rw [show min (max (k : Int) 0) (x.length : Int) = (k : Int) by omega] at CT
          have hkl : (x.take k).length = k := by rw [List.length_take]; omega
          obtain ⟨A1, c1, w1, r1, m1, on1, kin1⟩ := h3.app (some ⟨gB, offB, none⟩) d (x.take k) (qr.front k) (by omega)
          obtain ⟨⟨p1, p2, p3, z1, z2, z3, _⟩, PRT, _⟩ := MEM w1 (fun k => blk A = some k) on1 hFA
          obtain ⟨t1, t2⟩ := tk_some hk0 hkx' l2 bg
          obtain ⟨e1, e2⟩ := tk_stop (n := 0) (Int.le_refl _) (x.drop k :: l2) true
          have OF1 : Only F w w1 := h2.trans on1 (fun k hk e => by have := h4 k e; omega)
          have FIN : Aside (TL w F b R D res fin ((w1.setCell ⟨g, off, none⟩ (.slice (some ⟨gB, offB + k, none⟩) (x.length - k) (d - k))).drew.setCell ⟨b, 2, none⟩ (.bool true)) 0 (x.drop k :: l2) true (out ++ x.take k) A1 c1) := by
            obtain ⟨raw, on2⟩ := PRT k hkx'
            have hm : Mid _ A1 c1 (out ++ x.take k) := m1.only on2 (fun k hk hF => by
              rcases kin1 k hk with h | h
              · exact hFA k hF h
              · have := h9 k hF; have := h2.size; omega)
            have on3 := OF1.trans on2 (fun _ _ h => h)
            refine ⟨raw.drewN 1, ⟨on3.os, on3.tape, on3.output, on3.size, on3.block⟩, hm.drewN 1, fun k hk => (kin1 k hk).elim (h4 k) (fun h => Nat.le_trans h2.size h), ?_, ?_, ?_, ?_, h9⟩
            · rw [e2, List.append_nil, ← t2]; exact h5
            · rw [e1, ← t1]; exact h6
            · intro y hy
              rcases List.mem_cons.1 hy with rfl | hy
              · intro e
                have := congrArg List.length e
                rw [List.length_drop, List.length_nil] at this
                omega
              · exact h7' y hy
            · rw [List.length_append, List.flatten_cons, List.length_append, List.length_take, List.length_drop]; omega
          rw [List.length_append, hkl] at r1
          have HLE := Lib.hid (show (out ++ x.take k).length = out.length + k by rw [List.length_append, hkl])
          clear HO h1 h2 h3 h4 h5 h6 h7 h9 MEM PRT t1 t2 e1 e2 OF1 m1 on1 kin1 qr hFA h7' LAST hkl
          have hx0 : (0 : Int) ≤ (k : Int) := by omega
          have hxd : (k : Int) ≤ (d : Int) := by omega
          have hxk : (k : Int) ≤ (x.length : Int) := by omega
          have hdk : ¬ d = k := by omega
          have hne : ¬ x.length - k = 0 := by omega
          have hne2 : ¬ ((x.length - k : Nat) : Int) = 0 := by omega
          have hne3 : ((((x.length - k : Nat) : Int)) == 0) = false := by simpa using hne2
          go_wp2_with fail
          refine CT.mono ?_
          rintro e v9 ⟨rfl, rfl⟩
          go_upto_region 6 with (at_builtin; refine Lib.wpList_append_run _ rfl _ _ _ _ rfl _ _ rfl rfl _ _ (r1 _) ?_)
          clear q1 q2 q3
          go_region
          go_wp2
          go_roundg 0
          case measure => omega
          case rel => exact ⟨0, x.drop k :: l2, true, out ++ x.take k, A1, c1, rfl, by rw [HLE.out], fun h => absurd h (by omega), by omega, FIN⟩
    · obtain ⟨h1, h2, h3, h4, h5, h6, h7, h8, h9⟩ := HO.out
      obtain ⟨e1, e2⟩ := tk_stop (n := n') (by omega) l bg
      have hout : out = res := by rw [← h5, e2, List.append_nil]
      have FI := Lib.hid (show GaveR res (Ending.returned (.slice A out.length c)) wr ∧ PX wr F b s2 ∧ Only F w wr from ⟨⟨A, c, by rw [hout], by rw [← hout]; exact h3.rd⟩, LAST.out wr (by rw [← h6, e1]; exact h1), h2⟩)
      clear HO h1 h2 h3 h4 h5 h6 h7 h8 h9 hout LAST e1 e2
      generalize out.length = m at *
      go_wp2
      go_ret
      exact FI.out
end
end Go.Proofs.Ytpjhehfhpeclhaa

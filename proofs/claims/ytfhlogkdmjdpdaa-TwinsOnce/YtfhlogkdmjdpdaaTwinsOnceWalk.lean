/- The law TwinsOnce, walked. Condition: the slices read as their ints. -/
import Derived.Test.YtfhlogkdmjdpdaaTwnOnceMem
import Derived.Test.YtfhlogkdmjdpdaaIntRows
namespace Go.Proofs.Ytfhlogkdmjdpdaa
open Go.RowKit
set_option linter.unusedVariables false

set_option maxRecDepth 20000 in
theorem TwinsOnce_far (F n S : Int) (A : Option Addr) (la cA : Nat) (B : Option Addr) (lb cB : Nat) (w : World) (hn : -9223372036854775808 ≤ n ∧ n ≤ 9223372036854775807) (hma : la ≤ 9223372036854775807) (hmb : lb ≤ 9223372036854775807)
    (hl : n < 0 ∨ (0 ≤ n ∧ 100 < n) ∨ (0 ≤ n ∧ n ≤ 100 ∧ S < 2) ∨ (0 ≤ n ∧ n ≤ 100 ∧ 2 ≤ S ∧ 64 < S) ∨ (0 ≤ n ∧ n ≤ 100 ∧ 2 ≤ S ∧ S ≤ 64 ∧ (la : Int) < n) ∨ (0 ≤ n ∧ n ≤ 100 ∧ 2 ≤ S ∧ S ≤ 64 ∧ n ≤ (la : Int) ∧ (lb : Int) < 2 * n + 2)) :
    Calls Try.prog 4 #[.int .u32 F, .int .i64 n, .int .i64 S, .slice A la cA, .slice B lb cB] w fun e w' => e = .returned (.bool true) ∧ Below w.heap.size w w' := by
  rcases hl with h1 | ⟨h1, h2⟩ | ⟨h1, h2, h3⟩ | ⟨h1, h2, h3, h4⟩ | ⟨h1, h2, h3, h4, h5⟩ | ⟨h1, h2, h3, h4, h5, h6⟩
  all_goals
    go_enter Try.func4, Try.ntmps4
    go_wp2_with fail
    refine (alive_calls w).mono ?_
    rintro e w' ⟨rfl, hb⟩
    go_wp2
    go_ret
    exact ⟨rfl, hb⟩
/-- between two numbers -/
def ORel (w : World) (f S n : Nat) (l : List Int) (b0 g : Nat) (s14 s15 s16 : Value) (v : World) : Prop :=
  ∃ (a b i : Nat) (m : Tb) (T : List Nat), s14 = .int .i64 a ∧ s15 = .int .i64 b ∧ s16 = .int .i64 i ∧ Aside (i = a + b) ∧ Aside (Sa f S n l a b m T) ∧ Aside (On w v b0 g m T)
/-- j of the counts looked at -/
def ZRel (v1 : World) (n : Nat) (i : Value) (v : World) : Prop := ∃ j : Nat, j ≤ n ∧ i = .int .i64 j ∧ v = v1
set_option maxRecDepth 20000 in
set_option maxHeartbeats 1600000 in
theorem TwinsOnce_near (f n S : Nat) (A : Option Addr) (cA : Nat) (l : List Int) (B : Option Addr) (cB : Nat) (ls : List Int) (w : World) (hr : RdI w A l) (hrB : RdI w B ls) (hf : f < 4294967296) (hn : n ≤ 100) (hS : 2 ≤ S) (hS2 : S ≤ 64) (hla : n ≤ l.length) (hlb : 2 * n + 2 ≤ ls.length) (hma : l.length ≤ 9223372036854775807) (hmb : ls.length ≤ 9223372036854775807) :
    Calls Try.prog 4 #[.int .u32 (f : Int), .int .i64 (n : Int), .int .i64 (S : Int), .slice A l.length cA, .slice B ls.length cB] w fun e w' => e = .returned (.bool true) ∧ Below w.heap.size w w' := by
  have HR := Lib.hid hr
  have HRB := Lib.hid hrB
  obtain ⟨la, hla'⟩ : ∃ la, l.length = la := ⟨_, rfl⟩
  obtain ⟨lb, hlb'⟩ : ∃ lb, ls.length = lb := ⟨_, rfl⟩
  rw [hla'] at hla hma ⊢
  rw [hlb'] at hlb hmb ⊢
  have HLA := Lib.hid hla'
  have HLB := Lib.hid hlb'
  have HF := Lib.hid hf
  have SA0 := Lib.hid (Sa.start (f := f) (n := n) (l := l) hS hS2)
  clear hr hrB hla' hlb' hf
  have i1 : (0 : Int) ≤ (n : Int) := by omega
  have i2 : (n : Int) ≤ 100 := by omega
  have i3 : (2 : Int) ≤ (S : Int) := by omega
  have i4 : (S : Int) ≤ 64 := by omega
  have i5 : (n : Int) ≤ (la : Int) := by omega
  have i6 : 2 * (n : Int) + 2 ≤ (lb : Int) := by omega
  have hmk0 := Lib.hid (run_madeI n (by omega))
  go_enter Try.func4, Try.ntmps4
  go_wp2_with fail
  refine (alive_calls w).mono ?_
  rintro e W ⟨rfl, hb⟩
  have HB := Lib.hid hb
  clear hb
  go_wp2_with fail
  refine (one_new (S : Int) W).mono ?_
  rintro e W1 ⟨b0, rfl, o1⟩
  obtain ⟨g, hg⟩ : ∃ g, W1.heap.size = g := ⟨_, rfl⟩
  have hmk := hmk0.out W1
  obtain ⟨W2, hW2⟩ : ∃ W2, W1.alloc (.cells ((List.replicate n 0).map (nv .i64)).toArray 3) = W2 := ⟨_, rfl⟩
  have ON0 := Lib.hid (show On w W2 b0 g (tnew (S : Int)) (List.replicate n 0) from by
    rw [← hW2, ← hg]
    have hlt := o1.tab.lt
    have o2 := o1.later HB.out
    have hbl : Below W1.heap.size W1 (W1.alloc (.cells ((List.replicate n 0).map (nv .i64)).toArray 3)) := (Below.refl _ _).alloc (Nat.le_refl _) _
    exact ⟨⟨o2.tab.only (Only.of_below (fun _ => False) hbl) (fun h => h), o2.bel.trans (hbl.mono (by have := o2.base; omega)), o2.base⟩, heap_alloc_new W1 _, hlt⟩)
  rw [hW2, hg] at hmk
  clear o1 HB hW2 hg hmk0
  go_wp2_with fail
  clear hmk
  go_loopw [14, 15, 16] (ORel w f S n l b0 g) (fun s14 s15 _ _ => 2 * n - ((intOf s14).toNat + (intOf s15).toNat))
  case atStart => exact ⟨0, 0, 0, _, _, rfl, rfl, rfl, rfl, SA0.out, ON0.out⟩
  case round =>
    clear SA0 ON0
    obtain ⟨a, b, i, m, T, rfl, rfl, rfl, HI, HSA, HON⟩ := hrel
    have q1 : (a : Int) ≤ (n : Int) := by have := HSA.out.ha; omega
    have q2 : (b : Int) ≤ (n : Int) := by have := HSA.out.hb; omega
    have q5 : (0 : Int) ≤ (a : Int) := by omega
    have q6 : (0 : Int) ≤ (b : Int) := by omega
    have q7 : (i : Int) ≤ 200 := by have := HI.out; omega
    have hab := HSA.out.hab
    have hba := HSA.out.hba
    by_cases hA : a < n
    · by_cases hB : b < n
      · have p1 : decide ((a : Int) < (n : Int)) = true := by simp; omega
        have p2 : decide ((b : Int) < (n : Int)) = true := by simp; omega
        have p3 : ((b : Int) == (n : Int)) = false := by rw [beq_eq_false_iff_ne]; omega
        obtain ⟨gx, ox, rfl, hgx, hcx0⟩ := HRB.out.at_ (k := i) (by rw [HLB.out]; have := HI.out; omega)
        have hcx := (HON.out.one.bel.cell (p := ⟨gx, ox + i, none⟩) hgx).trans hcx0
        have iz : (i : Int) < (lb : Int) := by have := HI.out; omega
        generalize ls.getD i 0 = x at hcx
        clear hcx0 hgx
        cases o1 : (bits .and .i64 x 1 == 0) with
        | true =>
          by_cases hD : S - 1 ≤ a - b
          · have d1 : decide ((S : Int) - 1 ≤ (a : Int) - (b : Int)) = true := by simp; omega
            have d2 : decide ((S : Int) - 1 ≤ (b : Int) - (a : Int)) = false := by simp; omega
            obtain ⟨gl, ol, rfl, hgl, hcl0⟩ := HR.out.at_ (k := b) (by rw [HLA.out]; omega)
            have hcl := (HON.out.one.bel.cell (p := ⟨gl, ol + b, none⟩) hgl).trans hcl0
            have kz : (b : Int) < (la : Int) := by omega
            have hff : f2 l b = (bits .and .i64 (l.getD b 0) 2 == 0) := rfl
            generalize l.getD b 0 = y at hcl hff
            clear hcl0 hgl
            cases hfb : f2 l b with
            | false =>
              rw [hfb] at hff
              have hff2 := hff.symm
              clear hff
              have SA := Lib.hid (HSA.out.no2 (by omega) (by omega) hfb)
              have ON := Lib.hid HON.out
              clear HSA HON hfb
              go_wp2
              go_roundw
              case measure => simp only [intOf, Int.toNat_natCast]; omega
              case rel => exact ⟨a, b + 1, i + 1, m, T, rfl, by go_num, by go_num, by show i + 1 = a + (b + 1); have := HI.out; omega, SA.out, ON.out⟩
            | true =>
              rw [hfb] at hff
              have hff2 := hff.symm
              clear hff
              obtain ⟨y1, y2⟩ := HSA.out.came2 hn (by omega) (by omega) hfb
              have u1 : ((f : Int) + (b : Int)) % 4294967296 = (((f + b) % 4294967296 : Nat) : Int) := by omega
              have u2 : IntKind.u32.wrap ((f : Int) + (b : Int)) = (((f + b) % 4294967296 : Nat) : Int) := by rw [IntKind.wrap_u32]; omega
              have u3 : (f + b) % 4294967296 < 4294967296 := by omega
              generalize (f + b) % 4294967296 = q at *
              have cf := HON.out.fresh u3
              have Y1 := Lib.hid y1
              have Y2 := Lib.hid y2
              have hlen := HSA.out.len
              clear y1 y2 HSA HON hfb
              cases hz : m.isNew q with
              | false =>
                rw [hz] at cf
                have SA := Lib.hid (Y2.out hz)
                clear Y1 Y2 hz hlen
                go_wp2_with fail
                refine cf.mono ?_
                rintro e v1 ⟨rfl, on1⟩
                have ON := Lib.hid on1
                clear cf on1
                go_wp2
                go_roundw
                case measure => simp only [intOf, Int.toNat_natCast]; omega
                case rel => exact ⟨a, b + 1, i + 1, m.got q, T, rfl, by go_num, by go_num, by show i + 1 = a + (b + 1); have := HI.out; omega, SA.out, ON.out⟩
              | true =>
                rw [hz] at cf
                obtain ⟨sa1, ht0⟩ := Y1.out hz
                have SA := Lib.hid sa1
                have HT0 := Lib.hid ht0
                have HLEN := Lib.hid hlen
                clear Y1 Y2 hz sa1 ht0 hlen
                go_wp2_with fail
                refine cf.mono ?_
                rintro e v1 ⟨rfl, on1⟩
                have t1 := on1.cell (j := b) (by rw [HLEN.out]; omega)
                have t2 := on1.frozen b
                have ON := Lib.hid (on1.set b (T.getD b 0 + 1))
                rw [HT0.out] at t1 ON SA
                have kn2 : (b : Int) < (n : Int) := by omega
                clear cf on1 HT0
                go_wp2
                go_roundw
                case measure => simp only [intOf, Int.toNat_natCast]; omega
                case rel => exact ⟨a, b + 1, i + 1, m.got q, T.set b (0 + 1), rfl, by go_num, by go_num, by show i + 1 = a + (b + 1); have := HI.out; omega, SA.out, ON.out⟩
          · have d1 : decide ((S : Int) - 1 ≤ (a : Int) - (b : Int)) = false := by simp; omega
            obtain ⟨gl, ol, rfl, hgl, hcl0⟩ := HR.out.at_ (k := a) (by rw [HLA.out]; omega)
            have hcl := (HON.out.one.bel.cell (p := ⟨gl, ol + a, none⟩) hgl).trans hcl0
            have kz : (a : Int) < (la : Int) := by omega
            have hff : f1 l a = (bits .and .i64 (l.getD a 0) 1 == 0) := rfl
            generalize l.getD a 0 = y at hcl hff
            clear hcl0 hgl
            cases hfb : f1 l a with
            | false =>
              rw [hfb] at hff
              have hff2 := hff.symm
              clear hff
              have SA := Lib.hid (HSA.out.no1 (by omega) (by omega) hfb)
              have ON := Lib.hid HON.out
              clear HSA HON hfb
              go_wp2
              go_roundw
              case measure => simp only [intOf, Int.toNat_natCast]; omega
              case rel => exact ⟨a + 1, b, i + 1, m, T, by go_num, rfl, by go_num, by show i + 1 = a + 1 + (b); have := HI.out; omega, SA.out, ON.out⟩
            | true =>
              rw [hfb] at hff
              have hff2 := hff.symm
              clear hff
              obtain ⟨y1, y2⟩ := HSA.out.came1 hn (by omega) (by omega) hfb
              have u1 : ((f : Int) + (a : Int)) % 4294967296 = (((f + a) % 4294967296 : Nat) : Int) := by omega
              have u2 : IntKind.u32.wrap ((f : Int) + (a : Int)) = (((f + a) % 4294967296 : Nat) : Int) := by rw [IntKind.wrap_u32]; omega
              have u3 : (f + a) % 4294967296 < 4294967296 := by omega
              generalize (f + a) % 4294967296 = q at *
              have cf := HON.out.fresh u3
              have Y1 := Lib.hid y1
              have Y2 := Lib.hid y2
              have hlen := HSA.out.len
              clear y1 y2 HSA HON hfb
              cases hz : m.isNew q with
              | false =>
                rw [hz] at cf
                have SA := Lib.hid (Y2.out hz)
                clear Y1 Y2 hz hlen
                go_wp2_with fail
                refine cf.mono ?_
                rintro e v1 ⟨rfl, on1⟩
                have ON := Lib.hid on1
                clear cf on1
                go_wp2
                go_roundw
                case measure => simp only [intOf, Int.toNat_natCast]; omega
                case rel => exact ⟨a + 1, b, i + 1, m.got q, T, by go_num, rfl, by go_num, by show i + 1 = a + 1 + (b); have := HI.out; omega, SA.out, ON.out⟩
              | true =>
                rw [hz] at cf
                obtain ⟨sa1, ht0⟩ := Y1.out hz
                have SA := Lib.hid sa1
                have HT0 := Lib.hid ht0
                have HLEN := Lib.hid hlen
                clear Y1 Y2 hz sa1 ht0 hlen
                go_wp2_with fail
                refine cf.mono ?_
                rintro e v1 ⟨rfl, on1⟩
                have t1 := on1.cell (j := a) (by rw [HLEN.out]; omega)
                have t2 := on1.frozen a
                have ON := Lib.hid (on1.set a (T.getD a 0 + 1))
                rw [HT0.out] at t1 ON SA
                have kn2 : (a : Int) < (n : Int) := by omega
                clear cf on1 HT0
                go_wp2
                go_roundw
                case measure => simp only [intOf, Int.toNat_natCast]; omega
                case rel => exact ⟨a + 1, b, i + 1, m.got q, T.set a (0 + 1), by go_num, rfl, by go_num, by show i + 1 = a + 1 + (b); have := HI.out; omega, SA.out, ON.out⟩
        | false =>
          by_cases hD : S - 1 ≤ b - a
          · have d2 : decide ((S : Int) - 1 ≤ (b : Int) - (a : Int)) = true := by simp; omega
            obtain ⟨gl, ol, rfl, hgl, hcl0⟩ := HR.out.at_ (k := a) (by rw [HLA.out]; omega)
            have hcl := (HON.out.one.bel.cell (p := ⟨gl, ol + a, none⟩) hgl).trans hcl0
            have kz : (a : Int) < (la : Int) := by omega
            have hff : f1 l a = (bits .and .i64 (l.getD a 0) 1 == 0) := rfl
            generalize l.getD a 0 = y at hcl hff
            clear hcl0 hgl
            cases hfb : f1 l a with
            | false =>
              rw [hfb] at hff
              have hff2 := hff.symm
              clear hff
              have SA := Lib.hid (HSA.out.no1 (by omega) (by omega) hfb)
              have ON := Lib.hid HON.out
              clear HSA HON hfb
              go_wp2
              go_roundw
              case measure => simp only [intOf, Int.toNat_natCast]; omega
              case rel => exact ⟨a + 1, b, i + 1, m, T, by go_num, rfl, by go_num, by show i + 1 = a + 1 + (b); have := HI.out; omega, SA.out, ON.out⟩
            | true =>
              rw [hfb] at hff
              have hff2 := hff.symm
              clear hff
              obtain ⟨y1, y2⟩ := HSA.out.came1 hn (by omega) (by omega) hfb
              have u1 : ((f : Int) + (a : Int)) % 4294967296 = (((f + a) % 4294967296 : Nat) : Int) := by omega
              have u2 : IntKind.u32.wrap ((f : Int) + (a : Int)) = (((f + a) % 4294967296 : Nat) : Int) := by rw [IntKind.wrap_u32]; omega
              have u3 : (f + a) % 4294967296 < 4294967296 := by omega
              generalize (f + a) % 4294967296 = q at *
              have cf := HON.out.fresh u3
              have Y1 := Lib.hid y1
              have Y2 := Lib.hid y2
              have hlen := HSA.out.len
              clear y1 y2 HSA HON hfb
              cases hz : m.isNew q with
              | false =>
                rw [hz] at cf
                have SA := Lib.hid (Y2.out hz)
                clear Y1 Y2 hz hlen
                go_wp2_with fail
                refine cf.mono ?_
                rintro e v1 ⟨rfl, on1⟩
                have ON := Lib.hid on1
                clear cf on1
                go_wp2
                go_roundw
                case measure => simp only [intOf, Int.toNat_natCast]; omega
                case rel => exact ⟨a + 1, b, i + 1, m.got q, T, by go_num, rfl, by go_num, by show i + 1 = a + 1 + (b); have := HI.out; omega, SA.out, ON.out⟩
              | true =>
                rw [hz] at cf
                obtain ⟨sa1, ht0⟩ := Y1.out hz
                have SA := Lib.hid sa1
                have HT0 := Lib.hid ht0
                have HLEN := Lib.hid hlen
                clear Y1 Y2 hz sa1 ht0 hlen
                go_wp2_with fail
                refine cf.mono ?_
                rintro e v1 ⟨rfl, on1⟩
                have t1 := on1.cell (j := a) (by rw [HLEN.out]; omega)
                have t2 := on1.frozen a
                have ON := Lib.hid (on1.set a (T.getD a 0 + 1))
                rw [HT0.out] at t1 ON SA
                have kn2 : (a : Int) < (n : Int) := by omega
                clear cf on1 HT0
                go_wp2
                go_roundw
                case measure => simp only [intOf, Int.toNat_natCast]; omega
                case rel => exact ⟨a + 1, b, i + 1, m.got q, T.set a (0 + 1), by go_num, rfl, by go_num, by show i + 1 = a + 1 + (b); have := HI.out; omega, SA.out, ON.out⟩
          · have d2 : decide ((S : Int) - 1 ≤ (b : Int) - (a : Int)) = false := by simp; omega
            obtain ⟨gl, ol, rfl, hgl, hcl0⟩ := HR.out.at_ (k := b) (by rw [HLA.out]; omega)
            have hcl := (HON.out.one.bel.cell (p := ⟨gl, ol + b, none⟩) hgl).trans hcl0
            have kz : (b : Int) < (la : Int) := by omega
            have hff : f2 l b = (bits .and .i64 (l.getD b 0) 2 == 0) := rfl
            generalize l.getD b 0 = y at hcl hff
            clear hcl0 hgl
            cases hfb : f2 l b with
            | false =>
              rw [hfb] at hff
              have hff2 := hff.symm
              clear hff
              have SA := Lib.hid (HSA.out.no2 (by omega) (by omega) hfb)
              have ON := Lib.hid HON.out
              clear HSA HON hfb
              go_wp2
              go_roundw
              case measure => simp only [intOf, Int.toNat_natCast]; omega
              case rel => exact ⟨a, b + 1, i + 1, m, T, rfl, by go_num, by go_num, by show i + 1 = a + (b + 1); have := HI.out; omega, SA.out, ON.out⟩
            | true =>
              rw [hfb] at hff
              have hff2 := hff.symm
              clear hff
              obtain ⟨y1, y2⟩ := HSA.out.came2 hn (by omega) (by omega) hfb
              have u1 : ((f : Int) + (b : Int)) % 4294967296 = (((f + b) % 4294967296 : Nat) : Int) := by omega
              have u2 : IntKind.u32.wrap ((f : Int) + (b : Int)) = (((f + b) % 4294967296 : Nat) : Int) := by rw [IntKind.wrap_u32]; omega
              have u3 : (f + b) % 4294967296 < 4294967296 := by omega
              generalize (f + b) % 4294967296 = q at *
              have cf := HON.out.fresh u3
              have Y1 := Lib.hid y1
              have Y2 := Lib.hid y2
              have hlen := HSA.out.len
              clear y1 y2 HSA HON hfb
              cases hz : m.isNew q with
              | false =>
                rw [hz] at cf
                have SA := Lib.hid (Y2.out hz)
                clear Y1 Y2 hz hlen
                go_wp2_with fail
                refine cf.mono ?_
                rintro e v1 ⟨rfl, on1⟩
                have ON := Lib.hid on1
                clear cf on1
                go_wp2
                go_roundw
                case measure => simp only [intOf, Int.toNat_natCast]; omega
                case rel => exact ⟨a, b + 1, i + 1, m.got q, T, rfl, by go_num, by go_num, by show i + 1 = a + (b + 1); have := HI.out; omega, SA.out, ON.out⟩
              | true =>
                rw [hz] at cf
                obtain ⟨sa1, ht0⟩ := Y1.out hz
                have SA := Lib.hid sa1
                have HT0 := Lib.hid ht0
                have HLEN := Lib.hid hlen
                clear Y1 Y2 hz sa1 ht0 hlen
                go_wp2_with fail
                refine cf.mono ?_
                rintro e v1 ⟨rfl, on1⟩
                have t1 := on1.cell (j := b) (by rw [HLEN.out]; omega)
                have t2 := on1.frozen b
                have ON := Lib.hid (on1.set b (T.getD b 0 + 1))
                rw [HT0.out] at t1 ON SA
                have kn2 : (b : Int) < (n : Int) := by omega
                clear cf on1 HT0
                go_wp2
                go_roundw
                case measure => simp only [intOf, Int.toNat_natCast]; omega
                case rel => exact ⟨a, b + 1, i + 1, m.got q, T.set b (0 + 1), rfl, by go_num, by go_num, by show i + 1 = a + (b + 1); have := HI.out; omega, SA.out, ON.out⟩
      · obtain rfl : b = n := by have := HSA.out.hb; omega
        have p1 : decide ((a : Int) < (b : Int)) = true := by simp; omega
        have p2 : decide ((b : Int) < (b : Int)) = false := by simp
        have p3 : ((b : Int) == (b : Int)) = true := by simp
        have d1 : decide ((S : Int) - 1 ≤ (a : Int) - (b : Int)) = false := by simp; omega
        obtain ⟨gl, ol, rfl, hgl, hcl0⟩ := HR.out.at_ (k := a) (by rw [HLA.out]; omega)
        have hcl := (HON.out.one.bel.cell (p := ⟨gl, ol + a, none⟩) hgl).trans hcl0
        have kz : (a : Int) < (la : Int) := by omega
        have hff : f1 l a = (bits .and .i64 (l.getD a 0) 1 == 0) := rfl
        generalize l.getD a 0 = y at hcl hff
        clear hcl0 hgl
        cases hfb : f1 l a with
        | false =>
          rw [hfb] at hff
          have hff2 := hff.symm
          clear hff
          have SA := Lib.hid (HSA.out.no1 (by omega) (by omega) hfb)
          have ON := Lib.hid HON.out
          clear HSA HON hfb
          go_wp2
          go_roundw
          case measure => simp only [intOf, Int.toNat_natCast]; omega
          case rel => exact ⟨a + 1, b, i + 1, m, T, by go_num, rfl, by go_num, by show i + 1 = a + 1 + (b); have := HI.out; omega, SA.out, ON.out⟩
        | true =>
          rw [hfb] at hff
          have hff2 := hff.symm
          clear hff
          obtain ⟨y1, y2⟩ := HSA.out.came1 hn (by omega) (by omega) hfb
          have u1 : ((f : Int) + (a : Int)) % 4294967296 = (((f + a) % 4294967296 : Nat) : Int) := by omega
          have u2 : IntKind.u32.wrap ((f : Int) + (a : Int)) = (((f + a) % 4294967296 : Nat) : Int) := by rw [IntKind.wrap_u32]; omega
          have u3 : (f + a) % 4294967296 < 4294967296 := by omega
          generalize (f + a) % 4294967296 = q at *
          have cf := HON.out.fresh u3
          have Y1 := Lib.hid y1
          have Y2 := Lib.hid y2
          have hlen := HSA.out.len
          clear y1 y2 HSA HON hfb
          cases hz : m.isNew q with
          | false =>
            rw [hz] at cf
            have SA := Lib.hid (Y2.out hz)
            clear Y1 Y2 hz hlen
            go_wp2_with fail
            refine cf.mono ?_
            rintro e v1 ⟨rfl, on1⟩
            have ON := Lib.hid on1
            clear cf on1
            go_wp2
            go_roundw
            case measure => simp only [intOf, Int.toNat_natCast]; omega
            case rel => exact ⟨a + 1, b, i + 1, m.got q, T, by go_num, rfl, by go_num, by show i + 1 = a + 1 + (b); have := HI.out; omega, SA.out, ON.out⟩
          | true =>
            rw [hz] at cf
            obtain ⟨sa1, ht0⟩ := Y1.out hz
            have SA := Lib.hid sa1
            have HT0 := Lib.hid ht0
            have HLEN := Lib.hid hlen
            clear Y1 Y2 hz sa1 ht0 hlen
            go_wp2_with fail
            refine cf.mono ?_
            rintro e v1 ⟨rfl, on1⟩
            have t1 := on1.cell (j := a) (by rw [HLEN.out]; omega)
            have t2 := on1.frozen a
            have ON := Lib.hid (on1.set a (T.getD a 0 + 1))
            rw [HT0.out] at t1 ON SA
            have kn2 : (a : Int) < (b : Int) := by omega
            clear cf on1 HT0
            go_wp2
            go_roundw
            case measure => simp only [intOf, Int.toNat_natCast]; omega
            case rel => exact ⟨a + 1, b, i + 1, m.got q, T.set a (0 + 1), by go_num, rfl, by go_num, by show i + 1 = a + 1 + (b); have := HI.out; omega, SA.out, ON.out⟩
    · by_cases hB : b < n
      · obtain rfl : a = n := by have := HSA.out.ha; omega
        have p1 : decide ((a : Int) < (a : Int)) = false := by simp
        have p2 : decide ((b : Int) < (a : Int)) = true := by simp; omega
        have d2 : decide ((S : Int) - 1 ≤ (b : Int) - (a : Int)) = false := by simp; omega
        obtain ⟨gl, ol, rfl, hgl, hcl0⟩ := HR.out.at_ (k := b) (by rw [HLA.out]; omega)
        have hcl := (HON.out.one.bel.cell (p := ⟨gl, ol + b, none⟩) hgl).trans hcl0
        have kz : (b : Int) < (la : Int) := by omega
        have hff : f2 l b = (bits .and .i64 (l.getD b 0) 2 == 0) := rfl
        generalize l.getD b 0 = y at hcl hff
        clear hcl0 hgl
        cases hfb : f2 l b with
        | false =>
          rw [hfb] at hff
          have hff2 := hff.symm
          clear hff
          have SA := Lib.hid (HSA.out.no2 (by omega) (by omega) hfb)
          have ON := Lib.hid HON.out
          clear HSA HON hfb
          go_wp2
          go_roundw
          case measure => simp only [intOf, Int.toNat_natCast]; omega
          case rel => exact ⟨a, b + 1, i + 1, m, T, rfl, by go_num, by go_num, by show i + 1 = a + (b + 1); have := HI.out; omega, SA.out, ON.out⟩
        | true =>
          rw [hfb] at hff
          have hff2 := hff.symm
          clear hff
          obtain ⟨y1, y2⟩ := HSA.out.came2 hn (by omega) (by omega) hfb
          have u1 : ((f : Int) + (b : Int)) % 4294967296 = (((f + b) % 4294967296 : Nat) : Int) := by omega
          have u2 : IntKind.u32.wrap ((f : Int) + (b : Int)) = (((f + b) % 4294967296 : Nat) : Int) := by rw [IntKind.wrap_u32]; omega
          have u3 : (f + b) % 4294967296 < 4294967296 := by omega
          generalize (f + b) % 4294967296 = q at *
          have cf := HON.out.fresh u3
          have Y1 := Lib.hid y1
          have Y2 := Lib.hid y2
          have hlen := HSA.out.len
          clear y1 y2 HSA HON hfb
          cases hz : m.isNew q with
          | false =>
            rw [hz] at cf
            have SA := Lib.hid (Y2.out hz)
            clear Y1 Y2 hz hlen
            go_wp2_with fail
            refine cf.mono ?_
            rintro e v1 ⟨rfl, on1⟩
            have ON := Lib.hid on1
            clear cf on1
            go_wp2
            go_roundw
            case measure => simp only [intOf, Int.toNat_natCast]; omega
            case rel => exact ⟨a, b + 1, i + 1, m.got q, T, rfl, by go_num, by go_num, by show i + 1 = a + (b + 1); have := HI.out; omega, SA.out, ON.out⟩
          | true =>
            rw [hz] at cf
            obtain ⟨sa1, ht0⟩ := Y1.out hz
            have SA := Lib.hid sa1
            have HT0 := Lib.hid ht0
            have HLEN := Lib.hid hlen
            clear Y1 Y2 hz sa1 ht0 hlen
            go_wp2_with fail
            refine cf.mono ?_
            rintro e v1 ⟨rfl, on1⟩
            have t1 := on1.cell (j := b) (by rw [HLEN.out]; omega)
            have t2 := on1.frozen b
            have ON := Lib.hid (on1.set b (T.getD b 0 + 1))
            rw [HT0.out] at t1 ON SA
            have kn2 : (b : Int) < (a : Int) := by omega
            clear cf on1 HT0
            go_wp2
            go_roundw
            case measure => simp only [intOf, Int.toNat_natCast]; omega
            case rel => exact ⟨a, b + 1, i + 1, m.got q, T.set b (0 + 1), rfl, by go_num, by go_num, by show i + 1 = a + (b + 1); have := HI.out; omega, SA.out, ON.out⟩
      · obtain rfl : a = n := by have := HSA.out.ha; omega
        obtain rfl : b = a := by have := HSA.out.hb; omega
        have p1 : decide ((b : Int) < (b : Int)) = false := by simp
        have SA := Lib.hid HSA.out
        have ON := Lib.hid HON.out
        clear HSA HON
        go_wp2_with fail
        go_loopw [20] (ZRel wr b) (fun s20 _ => b - (intOf s20).toNat)
        case atStart => exact ⟨0, Nat.zero_le _, rfl, rfl⟩
        case round =>
          obtain ⟨j, hj, rfl, rfl⟩ := hrel
          by_cases hjn : j < b
          · have hjz : (j : Int) < (b : Int) := by omega
            have hjla : (j : Int) < (la : Int) := by omega
            obtain ⟨gl, ol, rfl, hgl, hcl0⟩ := HR.out.at_ (k := j) (by rw [HLA.out]; omega)
            have hcl := (ON.out.one.bel.cell (p := ⟨gl, ol + j, none⟩) hgl).trans hcl0
            have t1 := ON.out.cell (j := j) (by rw [SA.out.len]; exact hjn)
            have hfin := SA.out.fin hjn
            generalize T.getD j 0 = t at t1 hfin
            generalize l.getD j 0 = y at hcl hfin
            clear hcl0 hgl
            cases hy : (bits .and .i64 y 3 == 3) with
            | true =>
              rw [hy] at hfin
              obtain rfl : t = 0 := hfin
              go_wp2
              go_roundw
              case measure => simp only [intOf, Int.toNat_natCast]; omega
              case rel => exact ⟨j + 1, by omega, by go_num, rfl⟩
            | false =>
              rw [hy] at hfin
              obtain rfl : t = 1 := hfin
              go_wp2
              go_roundw
              case measure => simp only [intOf, Int.toNat_natCast]; omega
              case rel => exact ⟨j + 1, by omega, by go_num, rfl⟩
          · have hjz : ¬ (j : Int) < (b : Int) := by omega
            have FIN := Lib.hid (show Below w.heap.size w _ from ON.out.one.bel)
            clear ON SA
            go_wp2
            go_ret
            exact ⟨rfl, FIN.out⟩
theorem TwinsOnce_walk (F n S : Int) (A : Option Addr) (la cA : Nat) (zs : List Int) (B : Option Addr) (lb cB : Nat) (ys : List Int) (w : World) (w0 : (Lit.int .u32 F).wf = true) (w1 : (Lit.int .i64 n).wf = true) (w2 : (Lit.int .i64 S).wf = true)
    (h : (A = none ∧ la = 0 ∧ cA = 0 ∧ zs = []) ∨ ∃ x, A = some x ∧ la ≤ cA ∧ cA ≤ maxLen ∧ zs.length = cA ∧ (∀ i, i < zs.length → w.cell? (x.add i) = some (.int .i64 (zs.getD i 0))) ∧ ∀ n ∈ zs, (Lit.int .i64 n).wf = true)
    (h' : (B = none ∧ lb = 0 ∧ cB = 0 ∧ ys = []) ∨ ∃ x, B = some x ∧ lb ≤ cB ∧ cB ≤ maxLen ∧ ys.length = cB ∧ (∀ i, i < ys.length → w.cell? (x.add i) = some (.int .i64 (ys.getD i 0))) ∧ ∀ n ∈ ys, (Lit.int .i64 n).wf = true) :
    Calls Try.prog 4 #[.int .u32 F, .int .i64 n, .int .i64 S, .slice A la cA, .slice B lb cB] w fun e w' => e = .returned (.bool true) ∧ Below w.heap.size w w' := by
  obtain ⟨l, rfl, k1, k2, hr⟩ := RdI.of_row h
  obtain ⟨ls, rfl, j1, j2, hr'⟩ := RdI.of_row h'
  unfold maxLen at k2 j2
  obtain ⟨f, rfl, hf⟩ := u32_nat w0
  have hb := bounds_i64 w1
  by_cases hl : n < 0 ∨ (0 ≤ n ∧ 100 < n) ∨ (0 ≤ n ∧ n ≤ 100 ∧ S < 2) ∨ (0 ≤ n ∧ n ≤ 100 ∧ 2 ≤ S ∧ 64 < S) ∨ (0 ≤ n ∧ n ≤ 100 ∧ 2 ≤ S ∧ S ≤ 64 ∧ (l.length : Int) < n) ∨ (0 ≤ n ∧ n ≤ 100 ∧ 2 ≤ S ∧ S ≤ 64 ∧ n ≤ (l.length : Int) ∧ (ls.length : Int) < 2 * n + 2)
  · exact TwinsOnce_far _ n S A l.length cA B ls.length cB w (by omega) (by omega) (by omega) hl
  · obtain ⟨n', rfl⟩ : ∃ k : Nat, n = (k : Int) := ⟨n.toNat, by omega⟩
    obtain ⟨s', rfl⟩ : ∃ k : Nat, S = (k : Int) := ⟨S.toNat, by omega⟩
    exact TwinsOnce_near f n' s' A cA l B cB ls w hr hr' hf (by omega) (by omega) (by omega) (by omega) (by omega) (by omega) (by omega)
end Go.Proofs.Ytfhlogkdmjdpdaa

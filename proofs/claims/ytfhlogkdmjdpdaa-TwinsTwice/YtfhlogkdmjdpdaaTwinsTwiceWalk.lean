/- The law TwinsTwice, walked. Condition: the slice reads as its ints. -/
import Derived.Test.YtfhlogkdmjdpdaaTwnAlive
import Derived.Test.YtfhlogkdmjdpdaaIntRows
import Derived.Test.YtfhlogkdmjdpdaaNumOwn
import Derived.Laws.Bits128
namespace Go.Proofs.Ytfhlogkdmjdpdaa
open Go.RowKit
set_option linter.unusedVariables false

theorem i64_and65535 (n : Int) : bits .and .i64 n 65535 = n % 65536 := by
  have h3 : (BitVec.ofInt 64 65535).toNat = 2 ^ 16 - 1 := by decide
  have key : (BitVec.ofInt 64 n &&& BitVec.ofInt 64 65535).toNat = (n % ((2 ^ 64 : Nat) : Int)).toNat % 2 ^ 16 := by
    rw [BitVec.toNat_and, BitVec.toNat_ofInt, h3, Nat.and_two_pow_sub_one_eq_mod]
  show IntKind.i64.wrap ((BitVec.ofInt 64 n &&& BitVec.ofInt 64 65535).toNat : Nat) = n % 65536
  rw [key, IntKind.wrap_i64]
  omega
/-- the table knows what came -/
structure Tv (m : Tb) (L : List Nat) : Prop where
  none_ : m.kn = false → L = []
  small : m.kn = true → m.hi < 65536
  zero : m.kn = true → m.arr 0 = true
  all : m.kn = true → ∀ c ∈ L, c ≤ m.hi ∧ (m.arr (m.hi - c) = true ∨ m.S ≤ m.hi - c)
theorem Tv.step {m : Tb} {L : List Nat} (h : Tv m L) {n : Nat} (hn : n < 65536) : (m.isNew n = true → n ∉ L) ∧ Tv (m.got n) (L ++ [n]) := by
  by_cases hk : m.kn = true
  · have hf : ¬ m.kn = false := by rw [hk]; decide
    have hs := h.small hk
    have hz := h.zero hk
    have hall := h.all hk
    unfold Tb.isNew Tb.got
    rw [if_neg hf, if_neg hf]
    have hcase : n = m.hi ∨ m.hi < n ∨ n < m.hi := by omega
    rcases hcase with rfl | hlt | hlt
    · have ha : m.ahead m.hi = 0 := by unfold Tb.ahead; omega
      rw [if_pos ha, if_pos ha]
      refine ⟨fun e => (by cases e), fun e => absurd e hf, fun _ => hs, fun _ => hz, fun _ c hc => ?_⟩
      rcases List.mem_append.1 hc with hc | hc
      · exact hall c hc
      · rw [List.mem_singleton.1 hc, Nat.sub_self]
        exact ⟨Nat.le_refl _, .inl hz⟩
    · have ha : m.ahead n = n - m.hi := by unfold Tb.ahead; omega
      have h0 : ¬ m.ahead n = 0 := by omega
      have h1 : m.ahead n < 2147483648 := by omega
      rw [if_neg h0, if_pos h1, if_neg h0, if_pos h1]
      refine ⟨fun _ hm => (by have := (hall n hm).1; omega), fun e => (by cases e), fun _ => hn, fun _ => rfl, fun _ c hc => ?_⟩
      show c ≤ n ∧ ((if n - c = 0 then true else if n - c < m.ahead n then false else m.arr (n - c - m.ahead n)) = true ∨ m.S ≤ n - c)
      rcases List.mem_append.1 hc with hc | hc
      · obtain ⟨h1, h2⟩ := hall c hc
        rw [if_neg (by omega), if_neg (by omega), show n - c - m.ahead n = m.hi - c by omega]
        refine ⟨by omega, ?_⟩
        rcases h2 with h2 | h2
        · exact .inl h2
        · exact .inr (by omega)
      · rw [List.mem_singleton.1 hc, if_pos (by omega)]
        exact ⟨Nat.le_refl _, .inl rfl⟩
    · have ha : 2147483648 ≤ m.ahead n := by unfold Tb.ahead; omega
      have hb : m.behind n = m.hi - n := by unfold Tb.behind; omega
      have h0 : ¬ m.ahead n = 0 := by omega
      have h1 : ¬ m.ahead n < 2147483648 := by omega
      rw [if_neg h0, if_neg h1, if_neg h0, if_neg h1, hb]
      by_cases hS : m.S ≤ m.hi - n
      · rw [if_pos hS, if_pos hS]
        refine ⟨fun e => (by cases e), fun e => absurd e hf, fun _ => hs, fun _ => hz, fun _ c hc => ?_⟩
        rcases List.mem_append.1 hc with hc | hc
        · exact hall c hc
        · rw [List.mem_singleton.1 hc]
          exact ⟨by omega, .inr hS⟩
      · rw [if_neg hS, if_neg hS]
        refine ⟨fun e hm => ?_, fun e => (by cases e), fun _ => hs, fun _ => ?_, fun _ c hc => ?_⟩
        · rcases (hall n hm).2 with h2 | h2
          · rw [h2] at e
            cases e
          · exact hS h2
        · show (if 0 = m.hi - n then true else m.arr 0) = true
          rw [if_neg (by omega)]
          exact hz
        · show c ≤ m.hi ∧ ((if m.hi - c = m.hi - n then true else m.arr (m.hi - c)) = true ∨ m.S ≤ m.hi - c)
          rcases List.mem_append.1 hc with hc | hc
          · obtain ⟨h1, h2⟩ := hall c hc
            refine ⟨h1, ?_⟩
            by_cases e : m.hi - c = m.hi - n
            · rw [if_pos e]
              exact .inl rfl
            · rw [if_neg e]
              exact h2
          · rw [List.mem_singleton.1 hc, if_pos rfl]
            exact ⟨by omega, .inl rfl⟩
  · have hf : m.kn = false := by simpa using hk
    unfold Tb.isNew Tb.got
    rw [if_pos hf, if_pos hf, h.none_ hf]
    refine ⟨fun _ hm => (by cases hm), fun e => (by cases e), fun _ => hn, fun _ => rfl, fun _ c hc => ?_⟩
    rw [List.nil_append] at hc
    rw [List.mem_singleton.1 hc]
    exact ⟨Nat.le_refl _, .inl (by show (n - n == 0) = true; rw [Nat.sub_self]; rfl)⟩
theorem ntI : NT 32 3 .i64 8 := ⟨Try.underlying32, by kernel_rfl, Nat.le_refl _⟩
theorem TwinsTwice_far (S : Int) (A : Option Addr) (len c : Nat) (w : World) (hl : 150 < len) (hm : len ≤ 9223372036854775807) :
    Calls Try.prog 6 #[.int .i64 S, .slice A len c] w fun e w' => e = .returned (.bool true) ∧ Below w.heap.size w w' := by
  have g1 : 150 < (len : Int) := by omega
  go_enter Try.func6, Try.ntmps6
  go_wp2_with fail
  refine (alive_calls w).mono ?_
  rintro e w' ⟨rfl, hb⟩
  go_wp2
  go_ret
  exact ⟨rfl, hb⟩
/-- the table at b and the row of what came, behind it -/
structure TR (w v : World) (b : Nat) (m : Tb) (A : Option Addr) (c : Nat) (L : List Nat) : Prop where
  one : One w v b m
  own : NOwn 3 .i64 v (b + 1) A c L
  room : b + 1 ≤ v.heap.size
section
variable {w v : World} {b : Nat} {m : Tb} {A : Option Addr} {c : Nat} {L : List Nat}
theorem TR.fresh (h : TR w v b m A c L) {n : Nat} (hn : n < 4294967296) : Calls Try.prog 11 #[.pointer (some ⟨b, 0, none⟩), .int .u32 (n : Int)] v fun e v' => e = .returned (.bool (m.isNew n)) ∧ TR w v' b (m.got n) A c L := by
  refine (h.one.fresh hn).mono ?_
  rintro e v' ⟨rfl, h1, on⟩
  exact ⟨rfl, h1, h.own.only on (fun i hi e => by have := h.own.blk_ge i hi; omega), Nat.le_trans h.room on.size⟩
theorem TR.app (h : TR w v b m A c L) (hl : L.length ≤ 1000) (x : Nat) : ∃ A' c' v', (∀ ty, (Builtin.append_ #[32, 32] ty #[.slice A L.length c, .slice (some ⟨v.heap.size, 0, none⟩) 1 1]).run Try.prog (v.alloc (.cells #[.int .i64 (x : Int)] 3)) = .ok (.slice A' (L.length + 1) c') v') ∧ TR w v' b m A' c' (L ++ [x]) := by
  obtain ⟨A', c', v', run, own, on, kin⟩ := h.own.app ntI h.room (by omega) x
  refine ⟨A', c', v', run, ⟨h.one.tab.only on (fun e => ?_), h.one.bel.trans (on.below (fun i hi => ?_) h.one.bel.size), h.one.base⟩, own, Nat.le_trans h.room on.size⟩
  · have := h.own.blk_ge b e
    omega
  · have := h.own.blk_ge i hi
    have := h.one.base
    omega
end
/-- k of the ints gone through -/
def WRel (w : World) (len b : Nat) (s7 i : Value) (v : World) : Prop := ∃ (k : Nat) (m : Tb) (A : Option Addr) (c q : Nat) (L : List Nat), k ≤ len ∧ i = .int .i64 k ∧ s7 = .slice A q c ∧ q ≤ 1000 ∧ Aside (L.length = q) ∧ Aside (q = k) ∧ Tv m L ∧ TR w v b m A c L
/-- j of what came looked at -/
def JRel (v1 : World) (q : Nat) (i : Value) (v : World) : Prop := ∃ j : Nat, j ≤ q ∧ i = .int .i64 j ∧ v = v1
set_option maxHeartbeats 400000 in
theorem TwinsTwice_near (S : Int) (A : Option Addr) (c : Nat) (l : List Int) (w : World) (hr : RdI w A l) (hl : l.length ≤ 150) :
    Calls Try.prog 6 #[.int .i64 S, .slice A l.length c] w fun e w' => e = .returned (.bool true) ∧ Below w.heap.size w w' := by
  have HR := Lib.hid hr
  obtain ⟨len, hlen⟩ : ∃ len, l.length = len := ⟨_, rfl⟩
  rw [hlen] at hl ⊢
  have HL := Lib.hid hlen
  clear hr hlen
  have hlz : (len : Int) ≤ 150 := by omega
  go_enter Try.func6, Try.ntmps6
  go_wp2_with fail
  refine (alive_calls w).mono ?_
  rintro e W ⟨rfl, hb⟩
  have HB := Lib.hid hb
  clear hb
  go_wp2_with fail
  refine (one_new S W).mono ?_
  rintro e W1 ⟨b, rfl, o1⟩
  have ST := Lib.hid (show TR w W1 b (tnew S) none 0 [] from ⟨o1.later HB.out, NOwn.nil _ _ _ _, o1.tab.lt⟩)
  clear o1 HB
  go_wp2
  go_loopw [7, 8] (WRel w len b) (fun _ i _ => len - (intOf i).toNat)
  case atStart => exact ⟨0, tnew S, none, 0, 0, [], Nat.zero_le _, rfl, rfl, by omega, rfl, rfl, ⟨fun _ => rfl, fun e => (by cases e), fun e => (by cases e), fun e => (by cases e)⟩, ST.out⟩
  case round =>
    clear ST
    obtain ⟨k, m, B, d, q, L, hk, rfl, rfl, hq, HQ, HQK, tv, st⟩ := hrel
    by_cases hlt : k < len
    · have hltz : (k : Int) < (len : Int) := by omega
      obtain ⟨g, off, rfl, hgw, hc0⟩ := HR.out.at_ (k := k) (by rw [HL.out]; exact hlt)
      have hc := (st.one.bel.cell (p := ⟨g, off + k, none⟩) hgw).trans hc0
      clear hc0 hgw
      generalize l.getD k 0 = x at hc
      have ea := i64_and65535 x
      obtain ⟨n, hn⟩ : ∃ n : Nat, x % 65536 = (n : Int) := ⟨(x % 65536).toNat, by omega⟩
      have hnl : n < 65536 := by omega
      rw [hn] at ea
      have en : (n : Int) % 4294967296 = (n : Int) := by omega
      have en' : IntKind.u32.wrap (n : Int) = (n : Int) := by rw [IntKind.wrap_u32]; omega
      clear hn
      obtain ⟨hnot, tv'⟩ := tv.step hnl
      have cf := st.fresh (n := n) (by omega)
      have HTV := Lib.hid tv'
      have HNOT := Lib.hid hnot
      clear tv tv' hnot st
      generalize m.isNew n = z at *
      generalize m.got n = m' at *
      go_wp2_with fail
      refine cf.mono ?_
      rintro e v1 ⟨rfl, st⟩
      clear cf
      have hqz : (q : Int) ≤ 1000 := by omega
      have ST := Lib.hid st
      clear st
      go_wp2_with fail
      go_loopw [11] (JRel v1 q) (fun i _ => q - (intOf i).toNat)
      case atStart => exact ⟨0, Nat.zero_le _, rfl, rfl⟩
      case round =>
        obtain ⟨j, hj, rfl, rfl⟩ := hrel
        by_cases hjq : j < q
        · have hjz : (j : Int) < (q : Int) := by omega
          have hne : L ≠ [] := by
            rintro rfl
            have := HQ.out
            simp at this
            omega
          obtain ⟨g2, rfl, _, _, _, hcell, _⟩ := ST.out.own.parts hne
          have hcj := hcell j (by rw [HQ.out]; exact hjq)
          rw [Nat.zero_add] at hcj
          have hdiff : ((((L.getD j 0 : Nat) : Int) == (n : Int)) && z) = false := by
            cases hz : z with
            | false => simp
            | true =>
              have hmem : L.getD j 0 ∈ L := by
                have : j < L.length := by rw [HQ.out]; exact hjq
                simp [this]
              have hyn : L.getD j 0 ≠ n := fun e => HNOT.out hz (by rw [← e]; exact hmem)
              generalize L.getD j 0 = y at hyn
              have : ((y : Int) == (n : Int)) = false := by
                rw [beq_eq_false_iff_ne]
                omega
              rw [this]
              rfl
          clear hcell hne
          generalize L.getD j 0 = y at hcj hdiff
          cases hyn : ((y : Int) == (n : Int)) with
          | false =>
            clear hdiff
            go_wp2
            go_roundw
            case measure => simp [intOf]; omega
            case rel => exact ⟨j + 1, by omega, by go_num, rfl⟩
          | true =>
            have hz : z = false := by rw [hyn] at hdiff; simpa using hdiff
            subst hz
            clear hdiff
            go_wp2
            go_roundw
            case measure => simp [intOf]; omega
            case rel => exact ⟨j + 1, by omega, by go_num, rfl⟩
        · have hjz : ¬ (j : Int) < (q : Int) := by omega
          obtain ⟨B', d', v2, run, st2⟩ := ST.out.app (by rw [HQ.out]; exact hq) n
          rw [HQ.out] at run
          have FIN := Lib.hid st2
          clear st2 ST
          go_wp2_with (at_builtin; refine Lib.wpList_append_run _ rfl _ _ _ _ rfl _ _ rfl rfl _ _ (run _) ?_)
          go_roundw
          case measure => simp [intOf]; omega
          case rel => exact ⟨k + 1, m', B', d', q + 1, L ++ [n], by omega, by go_num, rfl, by have := HQK.out; omega, by show (L ++ [n]).length = q + 1; rw [List.length_append, HQ.out]; rfl, by show q + 1 = k + 1; rw [HQK.out], HTV.out, FIN.out⟩
    · have hltz : ¬ (k : Int) < (len : Int) := by omega
      have FIN := Lib.hid (show Below w.heap.size w _ from st.one.bel)
      clear st tv
      go_wp2
      go_ret
      exact ⟨rfl, FIN.out⟩
theorem TwinsTwice_walk (S : Int) (A : Option Addr) (len cap : Nat) (zs : List Int) (w : World) (w0 : (Lit.int .i64 S).wf = true)
    (h : (A = none ∧ len = 0 ∧ cap = 0 ∧ zs = []) ∨ ∃ x, A = some x ∧ len ≤ cap ∧ cap ≤ maxLen ∧ zs.length = cap ∧ (∀ i, i < zs.length → w.cell? (x.add i) = some (.int .i64 (zs.getD i 0))) ∧ ∀ n ∈ zs, (Lit.int .i64 n).wf = true) :
    Calls Try.prog 6 #[.int .i64 S, .slice A len cap] w fun e w' => e = .returned (.bool true) ∧ Below w.heap.size w w' := by
  obtain ⟨l, rfl, k1, k2, hr⟩ := RdI.of_row h
  by_cases hl : l.length ≤ 150
  · exact TwinsTwice_near S A cap l w hr hl
  · exact TwinsTwice_far S A l.length cap w (by omega) (by unfold maxLen at k2; omega)
end Go.Proofs.Ytfhlogkdmjdpdaa

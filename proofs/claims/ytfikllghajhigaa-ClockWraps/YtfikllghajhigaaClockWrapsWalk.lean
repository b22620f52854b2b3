/- ClockWraps: the law's walk. No condition. -/
import Derived.Test.YtfikllghajhigaaClkLen
import Derived.Test.YtfikllghajhigaaActRows
import Derived.Deep.RegionHeld
namespace Go.Proofs.Ytfikllghajhigaa
open Go.Proofs Go.RowKit Go.Lib Go.Sort
set_option linter.unusedVariables false

/-- two clocks of the program side by side -/
def Two (w v : World) (p n1 : Nat) (l1 : List Nat) (n2 : Nat) (l2 : List Nat) : Prop := Fam w v p [(45, n1, l1), (45, n2, l2)]
section
variable {w v : World} {p n1 n2 : Nat} {l1 l2 : List Nat}
theorem Two.bel (h : Two w v p n1 l1 n2 l2) : Below w.heap.size w v := Fam.bel h
theorem Two.drewN (h : Two w v p n1 l1 n2 l2) (m : Nat) : Two w (v.drewN m) p n1 l1 n2 l2 := Fam.drewN h m
theorem Two.drew (h : Two w v p n1 l1 n2 l2) : Two w v.drew p n1 l1 n2 l2 := Fam.drew h
theorem Two.startA (h : Two w v p n1 l1 n2 l2) (id after : Int) : Calls Try.prog 10 #[.pointer (some ⟨p, 0, none⟩), .int .i64 id, .int .i64 after] v fun e v' => e = .returned (.bool (isT id)) ∧ Two w v' p n1 (startL l1 id after) n2 l2 := Fam.start (i := 0) h rfl id after
theorem Two.startB (h : Two w v p n1 l1 n2 l2) (id after : Int) : Calls Try.prog 10 #[.pointer (some ⟨p + 1, 0, none⟩), .int .i64 id, .int .i64 after] v fun e v' => e = .returned (.bool (isT id)) ∧ Two w v' p n1 l1 n2 (startL l2 id after) := Fam.start (i := 1) h rfl id after
theorem Two.stopA (h : Two w v p n1 l1 n2 l2) (id : Int) : Calls Try.prog 12 #[.pointer (some ⟨p, 0, none⟩), .int .i64 id] v fun e v' => e = .returned (.bool (runs l1 id)) ∧ Two w v' p n1 (stopL l1 id) n2 l2 := Fam.stop (i := 0) h rfl id
theorem Two.stopB (h : Two w v p n1 l1 n2 l2) (id : Int) : Calls Try.prog 12 #[.pointer (some ⟨p + 1, 0, none⟩), .int .i64 id] v fun e v' => e = .returned (.bool (runs l2 id)) ∧ Two w v' p n1 l1 n2 (stopL l2 id) := Fam.stop (i := 1) h rfl id
theorem Two.passA (h : Two w v p n1 l1 n2 l2) (n : Int) : Calls Try.prog 15 #[.pointer (some ⟨p, 0, none⟩), .int .i64 n] v fun e v' => ∃ A c L, e = .returned (.slice A L.length c) ∧ Exp l1 (cut 0 n) L ∧ Res v' (p + 2) A L ∧ Keeps (p + 2) v v' ∧ Two w v' p (later n1 (cut 0 n)) (l1.map (· - cut 0 n)) n2 l2 := Fam.pass (i := 0) h rfl n
theorem Two.passB (h : Two w v p n1 l1 n2 l2) (n : Int) : Calls Try.prog 15 #[.pointer (some ⟨p + 1, 0, none⟩), .int .i64 n] v fun e v' => ∃ A c L, e = .returned (.slice A L.length c) ∧ Exp l2 (cut 0 n) L ∧ Res v' (p + 2) A L ∧ Keeps (p + 2) v v' ∧ Two w v' p n1 l1 (later n2 (cut 0 n)) (l2.map (· - cut 0 n)) := Fam.pass (i := 1) h rfl n
theorem Two.nowA (h : Two w v p n1 l1 n2 l2) : Calls Try.prog 19 #[.pointer (some ⟨p, 0, none⟩)] v fun e v' => e = .returned (.int .u32 (n1 : Int)) ∧ v' = v := Fam.nowC (i := 0) h rfl
theorem Two.nowB (h : Two w v p n1 l1 n2 l2) : Calls Try.prog 19 #[.pointer (some ⟨p + 1, 0, none⟩)] v fun e v' => e = .returned (.int .u32 (n2 : Int)) ∧ v' = v := Fam.nowC (i := 1) h rfl
end
set_option maxHeartbeats 2000000 in
set_option maxRecDepth 100000 in
theorem ClockWraps_main (one two : Nat) (A : Option Addr) (cap : Nat) (ls : List Act3) (h1 : one < 4294967296) (h2 : two < 4294967296) (hl : ls.length ≤ 100) (w : World) (hr : RdA w A ls) :
    Calls Try.prog 4 #[.int .u32 (one : Int), .int .u32 (two : Int), .slice A ls.length cap] w fun e w' => e = .returned (.bool true) ∧ Below w.heap.size w w' := by
  have al := alive_calls w
  have HR := Lib.hid hr
  have g1 : ¬ 100 < (ls.length : Int) := by omega
  obtain ⟨len, hlen⟩ : ∃ n, n = ls.length := ⟨_, rfl⟩
  rw [← hlen] at g1 hl ⊢
  have HL := Lib.hid hlen
  clear hlen hr
  go_enter Try.func4, Try.ntmps4
  go_wp2_with fail
  refine al.mono ?_
  rintro e W ⟨rfl, bel⟩
  clear al
  obtain ⟨w2, hw2⟩ : ∃ w2, (W.alloc (.cells (cc one nought) 45)).alloc (.cells (cc two nought) 45) = w2 := ⟨_, rfl⟩
  have hF : Two w w2 W.heap.size one nought two nought := by rw [← hw2]; exact Fam.start2 bel h1 h2 _ _
  have c1 := new_calls one W
  have c2 := new_calls two (W.alloc (.cells (cc one nought) 45))
  rw [hw2, show (W.alloc (.cells (cc one nought) 45)).heap.size = W.heap.size + 1 by simp] at c2
  obtain ⟨p, hp⟩ : ∃ p, p = W.heap.size := ⟨_, rfl⟩
  rw [← hp] at c1 c2 hF
  have H0 : Aside (Two w w2 p one nought two nought) := hF
  clear hF hw2 hp
  go_wp2_with fail
  refine c1.mono ?_
  rintro e w' ⟨rfl, rfl⟩
  go_wp2_with fail
  refine c2.mono ?_
  rintro e w' ⟨rfl, rfl⟩
  clear c1 c2 bel
  go_wp2_with fail
  go_loopg [10] len (fun kx s10 wr => ∃ (i n1 n2 T : Nat) (l : List Nat), s10 = .int .i64 i ∧ i ≤ len ∧ len - i ≤ kx ∧ Aside (Two w wr p n1 l n2 l) ∧ Aside (n1 = later one T ∧ n2 = later two T))
  case atStart => exact ⟨0, one, two, 0, nought, rfl, by omega, by omega, H0, ⟨by unfold later; omega, by unfold later; omega⟩⟩
  case round =>
    clear H0
    obtain ⟨i, n1, n2, T, l, rfl, hil, hkx, HT, HN⟩ := hrel
    by_cases hlt : i < len
    · have hltz : (i : Int) < (len : Int) := by omega
      obtain ⟨b, off, rfl, hbw, k0, k1, k2⟩ := RdA.at_ (j := i) HR.out (by rw [← HL.out]; exact hlt)
      generalize ls.getD i (0, 0, 0) = x at k0 k1 k2
      obtain ⟨way, id, n⟩ := x
      have HK := Lib.hid (show ∀ v', Below w.heap.size w v' → v'.cell? ⟨b, off + i * 3 + 1, none⟩ = some (.int .i64 id) ∧ v'.cell? ⟨b, off + i * 3 + 2, none⟩ = some (.int .i64 n) from fun v' hb => ⟨(hb.cell (p := ⟨b, off + i * 3 + 1, none⟩) hbw).trans k1, (hb.cell (p := ⟨b, off + i * 3 + 2, none⟩) hbw).trans k2⟩)
      have q0 := (HT.out.bel.cell (p := ⟨b, off + i * 3, none⟩) hbw).trans k0
      simp only at q0
      clear k0 k1 k2 hbw
      have hT0 := HT.out
      have hT1 := hT0.drew
      clear HT
      by_cases hw0 : way = 0
      · subst hw0
        go_wp2_with fail
        go_region_held (fun w' => w'.cell? ⟨b, off + i * 3 + 1, none⟩ = some (.int .i64 id) ∧ w'.cell? ⟨b, off + i * 3 + 2, none⟩ = some (.int .i64 n)) (first | exact HK.out _ (Two.bel (by assumption))) (first | (go_at_call 10; first | (refine (Two.startA (by assumption) _ _).mono ?_; rintro e v' ⟨rfl, hT⟩) | (refine (Two.startB (by assumption) _ _).mono ?_; rintro e v' ⟨rfl, hT⟩)))
        have hTT := hT
        have hNN := HN.out
        have FIN : Aside (Two w v' p (n1) (startL l id n) (n2) (startL l id n)) := hTT
        have HNN : Aside (n1 = later one (T) ∧ n2 = later two (T)) := hNN
        have cA := hTT.nowA
        have cB := hTT.nowB
        obtain ⟨m1, hm1⟩ : ∃ m, m = n1 := ⟨_, rfl⟩
        obtain ⟨m2, hm2⟩ : ∃ m, m = n2 := ⟨_, rfl⟩
        obtain ⟨t, ht⟩ : ∃ t, t = (T) % 4294967296 := ⟨_, rfl⟩
        rw [← hm1] at cA FIN HNN
        rw [← hm2] at cB FIN HNN
        have z1 : IntKind.u32.wrap ((m1 : Int) - (one : Int)) = (t : Int) := by rw [IntKind.wrap_u32, HNN.out.1]; unfold later; omega
        have z2 : IntKind.u32.wrap ((m2 : Int) - (two : Int)) = (t : Int) := by rw [IntKind.wrap_u32, HNN.out.2]; unfold later; omega
        clear hTT hNN hm1 hm2 ht hT0 hT1
        go_wp2_with fail
        refine cA.mono ?_
        rintro e v9 ⟨rfl, rfl⟩
        go_wp2_with fail
        refine cB.mono ?_
        rintro e v9 ⟨rfl, rfl⟩
        go_wp2
        go_roundg (len - (i + 1))
        case measure => omega
        case rel => exact ⟨i + 1, m1, m2, T, startL l id n, by go_num, by omega, Nat.le_refl _, FIN, HNN⟩
      · by_cases hw1 : way = 1
        · subst hw1
          go_wp2_with fail
          go_region_held (fun w' => w'.cell? ⟨b, off + i * 3 + 1, none⟩ = some (.int .i64 id) ∧ w'.cell? ⟨b, off + i * 3 + 2, none⟩ = some (.int .i64 n)) (first | exact HK.out _ (Two.bel (by assumption)) | exact HK.out _ (Two.bel (Two.drewN (by assumption) _))) (first | (go_at_call 12; first | (refine (Two.stopA (by assumption) _).mono ?_; rintro e v' ⟨rfl, hT⟩) | (refine (Two.stopB (by assumption) _).mono ?_; rintro e v' ⟨rfl, hT⟩)))
          have hTT := hT
          have hNN := HN.out
          have FIN : Aside (Two w v' p (n1) (stopL l id) (n2) (stopL l id)) := hTT
          have HNN : Aside (n1 = later one (T) ∧ n2 = later two (T)) := hNN
          have cA := hTT.nowA
          have cB := hTT.nowB
          obtain ⟨m1, hm1⟩ : ∃ m, m = n1 := ⟨_, rfl⟩
          obtain ⟨m2, hm2⟩ : ∃ m, m = n2 := ⟨_, rfl⟩
          obtain ⟨t, ht⟩ : ∃ t, t = (T) % 4294967296 := ⟨_, rfl⟩
          rw [← hm1] at cA FIN HNN
          rw [← hm2] at cB FIN HNN
          have z1 : IntKind.u32.wrap ((m1 : Int) - (one : Int)) = (t : Int) := by rw [IntKind.wrap_u32, HNN.out.1]; unfold later; omega
          have z2 : IntKind.u32.wrap ((m2 : Int) - (two : Int)) = (t : Int) := by rw [IntKind.wrap_u32, HNN.out.2]; unfold later; omega
          clear hTT hNN hm1 hm2 ht hT0 hT1
          go_wp2_with fail
          refine cA.mono ?_
          rintro e v9 ⟨rfl, rfl⟩
          go_wp2_with fail
          refine cB.mono ?_
          rintro e v9 ⟨rfl, rfl⟩
          go_wp2
          go_roundg (len - (i + 1))
          case measure => omega
          case rel => exact ⟨i + 1, m1, m2, T, stopL l id, by go_num, by omega, Nat.le_refl _, FIN, HNN⟩
        · have hb0 : (way == 0) = false := by simpa using hw0
          have hb1 : (way == 1) = false := by simpa using hw1
          go_wp2_with fail
          go_region_held (fun w' => w'.cell? ⟨b, off + i * 3 + 1, none⟩ = some (.int .i64 id) ∧ w'.cell? ⟨b, off + i * 3 + 2, none⟩ = some (.int .i64 n)) (first | exact HK.out _ (Two.bel (by assumption)) | exact HK.out _ (Two.bel (Two.drewN (by assumption) _))) (first | (go_at_call 15; first | (refine (Two.passA (by assumption) _).mono ?_; rintro e v' ⟨A', c', L, rfl, hE, hR, hK, hT⟩) | (refine (Two.passB (by assumption) _).mono ?_; rintro e v' ⟨A', c', L, rfl, hE, hR, hK, hT⟩)) | (go_at_call 14; refine (same_res _ _ (by first | assumption | exact Res.kept (by assumption) (by assumption)) (by first | assumption | exact Res.kept (by assumption) (by assumption)) (by assumption) (by assumption)).mono ?_; rintro e v' ⟨rfl, mm, rfl⟩))
          have hTT := hT.drewN mm
          have hNN : later n1 (cut 0 n) = later one (T + cut 0 n) ∧ later n2 (cut 0 n) = later two (T + cut 0 n) := by
            have := HN.out
            rw [this.1, this.2]
            unfold later
            omega
          clear hb0 hb1
          have FIN : Aside (Two w (v'.drewN mm) p (later n1 (cut 0 n)) (l.map (· - cut 0 n)) (later n2 (cut 0 n)) (l.map (· - cut 0 n))) := hTT
          have HNN : Aside (later n1 (cut 0 n) = later one (T + cut 0 n) ∧ later n2 (cut 0 n) = later two (T + cut 0 n)) := hNN
          have cA := hTT.nowA
          have cB := hTT.nowB
          obtain ⟨m1, hm1⟩ : ∃ m, m = later n1 (cut 0 n) := ⟨_, rfl⟩
          obtain ⟨m2, hm2⟩ : ∃ m, m = later n2 (cut 0 n) := ⟨_, rfl⟩
          obtain ⟨t, ht⟩ : ∃ t, t = (T + cut 0 n) % 4294967296 := ⟨_, rfl⟩
          rw [← hm1] at cA FIN HNN
          rw [← hm2] at cB FIN HNN
          have z1 : IntKind.u32.wrap ((m1 : Int) - (one : Int)) = (t : Int) := by rw [IntKind.wrap_u32, HNN.out.1]; unfold later; omega
          have z2 : IntKind.u32.wrap ((m2 : Int) - (two : Int)) = (t : Int) := by rw [IntKind.wrap_u32, HNN.out.2]; unfold later; omega
          clear hTT hNN hm1 hm2 ht hT0 hT1
          go_wp2_with fail
          refine cA.mono ?_
          rintro e v9 ⟨rfl, rfl⟩
          go_wp2_with fail
          refine cB.mono ?_
          rintro e v9 ⟨rfl, rfl⟩
          go_wp2
          go_roundg (len - (i + 1))
          case measure => omega
          case rel => exact ⟨i + 1, m1, m2, T + cut 0 n, l.map (· - cut 0 n), by go_num, by omega, Nat.le_refl _, FIN, HNN⟩
    · have hltz : ¬ (i : Int) < (len : Int) := by omega
      have FIN : Aside (Below w.heap.size w wr) := HT.out.bel
      go_wp2
      go_ret
      exact ⟨rfl, FIN.out⟩
theorem ClockWraps_far (one two : Int) (A : Option Addr) (len cap : Nat) (hl : 100 < len) (hc : len ≤ maxLen) (w : World) :
    Calls Try.prog 4 #[.int .u32 one, .int .u32 two, .slice A len cap] w fun e w' => e = .returned (.bool true) ∧ Below w.heap.size w w' := by
  have al := alive_calls w
  have g1 : 100 < (len : Int) := by omega
  unfold maxLen at hc
  go_enter Try.func4, Try.ntmps4
  go_wp2_with fail
  refine al.mono ?_
  rintro e W ⟨rfl, bel⟩
  have FIN := Lib.hid bel
  clear al bel
  go_wp2
  go_ret
  exact ⟨rfl, FIN.out⟩
theorem u32_nat {a : Int} (h : (Lit.int .u32 a).wf = true) : ∃ k : Nat, a = (k : Int) ∧ k < 4294967296 := by
  have := bounds_u32 h
  exact ⟨a.toNat, by omega, by omega⟩
theorem ClockWraps_walk (one two : Int) (A : Option Addr) (len cap : Nat) (w : World) (w0 : (Lit.int .u32 one).wf = true) (w1 : (Lit.int .u32 two).wf = true) (h : IsActs w A len cap) :
    Calls Try.prog 4 #[.int .u32 one, .int .u32 two, .slice A len cap] w fun e w' => e = .returned (.bool true) ∧ Below w.heap.size w w' := by
  obtain ⟨ls, rfl, h1, h2, hr⟩ := h
  obtain ⟨o, rfl, ho⟩ := u32_nat w0
  obtain ⟨t, rfl, ht⟩ := u32_nat w1
  by_cases hl : ls.length ≤ 100
  · exact ClockWraps_main o t A cap ls ho ht hl w hr
  · exact ClockWraps_far _ _ A ls.length cap (by omega) (by omega) w
end Go.Proofs.Ytfikllghajhigaa

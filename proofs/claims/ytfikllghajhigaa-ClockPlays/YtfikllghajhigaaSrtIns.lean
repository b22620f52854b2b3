/- The library's insertion sort by a comparison, at elements of one cell: it sorts, and keeps the order of equals. Condition: the row is in the order of its ids. -/
import Derived.Test.YtfikllghajhigaaSrtSwap
namespace Go.Proofs.Ytfikllghajhigaa
open Go.Proofs Go.Shelf Go.RowKit Go.Lib Go.Sort
set_option linter.unusedVariables false
variable {α : Type} [Inhabited α]

/-- the rank r orders by cf first and then by id -/
structure Rnk (cf : α → α → Int) (id r : α → Nat) : Prop where
  lo : ∀ x y, id x < id y → cf y x < 0 → r y < r x
  hi : ∀ x y, id x < id y → ¬ cf y x < 0 → r x < r y

set_option maxHeartbeats 16000000 in
set_option maxRecDepth 1000000 in
theorem insertion_calls (enc : α → Value) (cf : α → α → Int) (id r : α → Nat) (K : Rnk cf id r) (g : Nat) (cb : Array Value) (blk off cap a b : Nat) (d0 d : Array α) (w0 w : World)
    (eg : ∀ args w, (callFunc g args).run Try.prog w = .ok (.enter g args) w) (hcmp : CmpLays1 Try.prog g cb enc cf blk off d0.size w0) (R : Row1 enc w0 blk off d0) (hs : d0.size = d.size) (S : SW enc w0 blk off d w) (hab : a ≤ b) (hb : b ≤ d.size) (hsz : d.size < 4611686018427387904)
    (A : Srt id a b (ix d)) :
    Calls Try.prog 31 #[.slice (some ⟨blk, off, none⟩) d.size cap, .int .i64 a, .int .i64 b, .func (.func g) #[] cb] w fun e w' => e = .returned (.tuple #[]) ∧ ∃ d', SW enc w0 blk off d' w' ∧ d'.size = d.size ∧ Srt r a b (ix d') ∧ Same a b (ix d) (ix d') := by
  have mixed : Try.prog.follows Departure.mixedOrders = true := by kernel_rfl
  have hcl0 := R.hO.cells
  simp only [Value.cells] at hcl0
  have hst := R.hO.store Try.prog
  have HC : Aside _ := hcmp
  have HA : Aside _ := A
  have HK : Aside _ := K
  have S0 : Aside (SW enc w0 blk off d w) := S
  clear S hcmp A K
  go_enter Try.func31, Try.ntmps31
  go_wp2
  go_loopg [8] (b - a) (fun g1 vi wr => ∃ (i : Nat) (dk : Array α), vi = .int .i64 i ∧ a < i ∧ i ≤ b + 1 ∧ b + 1 - i ≤ g1 + 1 ∧ dk.size = d.size ∧ Aside (SW enc w0 blk off dk wr) ∧ Aside (Srt r a i (ix dk)) ∧ Aside (Same a (min i b) (ix d) (ix dk)))
  case atStart => exact ⟨a + 1, d, by go_num, by omega, by omega, by omega, rfl, S0, fun i j h1 h2 h3 => by omega, Same.refl _ _ _⟩
  case round =>
    clear S0
    obtain ⟨i, dk, rfl, hai, hib, hg1, hsk, S1, HO, HM⟩ := hrel
    by_cases hlt : i < b
    · have hltz : (i : Int) < (b : Int) := by omega
      go_wp2
      go_loopg [9] i (fun g2 vj wr2 => ∃ (j : Nat) (dj : Array α), vj = .int .i64 j ∧ a ≤ j ∧ j ≤ i ∧ j ≤ g2 ∧ dj.size = d.size ∧ Aside (SW enc w0 blk off dj wr2) ∧ Aside (Rot j i (i + 1) (ix dk) (ix dj)) ∧ Aside (j = i ∨ r (ix dk i) < r (ix dk j)))
      case atStart => exact ⟨i, dk, rfl, by omega, Nat.le_refl _, Nat.le_refl _, hsk, S1, Rot.none (.inl rfl) _, .inl rfl⟩
      case round =>
        clear S1
        obtain ⟨j, dj, rfl, haj, hji, hg2, hsj, SJ, HI, HU⟩ := hrel
        have hmin : min i b = i := by omega
        have hmin' : min (i + 1) b = i + 1 := by omega
        have early : ∀ k, a ≤ k → k < i → id (ix dk k) < id (ix dk i) := fun k h1 h2 => by
          have hM := HM.out
          rw [hmin] at hM
          obtain ⟨q, h3, h4, e⟩ := hM.fwd k h1 h2
          rw [e, hM.out i (by omega)]
          exact HA.out q i h3 h4 hlt
        have out : (j = a ∨ r (ix dk (j - 1)) < r (ix dk i)) → Srt r a (i + 1) (ix dj) ∧ Same a (min (i + 1) b) (ix d) (ix dj) := fun hL => by
          have hM := HM.out
          rw [hmin] at hM
          rw [hmin']
          exact ⟨Srt.insert HO.out HI.out haj hji hL HU.out, (hM.mono (Nat.le_refl _) (by omega)).trans ((HI.out.same hji (by omega)).mono haj (Nat.le_refl _))⟩
        have OUT : Aside _ := out
        have EARLY : Aside _ := early
        clear out early hmin hmin'
        by_cases hja : a < j
        · have hjaz : (a : Int) < (j : Int) := by omega
          obtain ⟨jp, hjp⟩ : ∃ q, q + 1 = j := ⟨j - 1, by omega⟩
          have zjp : (j : Int) = (jp : Int) + 1 := by omega
          have hjad : decide ((jp : Int) + 1 > (a : Int)) = true := decide_eq_true (by omega)
          have hjaz' : (a : Int) < (jp : Int) + 1 := by omega
          obtain ⟨jN, hjN⟩ : ∃ q, q = j - 1 := ⟨_, rfl⟩
          have ea : ((jp : Int) + 1).toNat = j := by omega
          have pa : (0 : Int) ≤ (jp : Int) + 1 := by omega
          have ba : (jp : Int) + 1 < (d.size : Int) := by omega
          have ra : IntKind.i64.wrap ((jp : Int) + 1) = (jp : Int) + 1 := by rw [IntKind.wrap_i64]; omega
          have ec : ((jp : Int)).toNat = jN := by omega
          have pc : (0 : Int) ≤ (jp : Int) := by omega
          have bc : (jp : Int) < (d.size : Int) := by omega
          have rc : IntKind.i64.wrap ((jp : Int)) = (jp : Int) := by rw [IntKind.wrap_i64]; omega
          obtain ⟨x1, hx1⟩ : ∃ x, x = dj[j]! := ⟨_, rfl⟩
          obtain ⟨y1, hy1⟩ : ∃ x, x = dj[jN]! := ⟨_, rfl⟩
          have vx : Aside (x1 = ix dk i) := by rw [hx1]; exact HI.out.at_ hji
          have vy : Aside (y1 = ix dk (j - 1)) := by rw [hy1, hjN]; exact HI.out.under (by omega)
          have lt1 : id y1 < id x1 := by rw [vx.out, vy.out]; exact EARLY.out _ (by omega) (by omega)
          have l1a := SJ.out.cl R (by omega) j (by omega)
          have l1b := SJ.out.cl R (by omega) jN (by omega)
          rw [← hx1] at l1a
          rw [← hy1] at l1b
          have hc1 := SJ.out.cmp HC.out (by omega) x1 y1
          have HX : Aside (x1 = dj[j]!) := hx1
          have HY : Aside (y1 = dj[jN]!) := hy1
          have HN : Aside (jN = j - 1) := hjN
          clear hx1 hy1 hjN
          by_cases hlv : cf x1 y1 < 0
          · have hd1 : decide (cf x1 y1 < 0) = true := decide_eq_true hlv
            have HR : Aside (r x1 < r y1) := HK.out.lo _ _ lt1 hlv
            clear lt1
            go_wp2_with fail
            go_quiet_grown (first | (go_at_fn g; refine Calls.grown_of (hc1 _ _)))
            have S2 : Aside (SW enc w0 blk off dj (grow (wr.drewN nq) osq)) := SJ.out.grown nq osq
            clear l1a l1b hc1 SJ
            generalize grow (wr.drewN nq) osq = w2 at S2 ⊢
            clear nq osq hlv hd1
            go_wp2_with fail
            have S3 : Aside (SW enc w0 blk off (swp dj j jN) ((w2.setCell ⟨blk, off + j, none⟩ (enc y1)).setCell ⟨blk, off + jN, none⟩ (enc x1)).drew) := by rw [HX.out, HY.out]; exact S2.out.swapped R j jN (by omega) (by have := HN.out; omega)
            have c1a := S2.out.c1 R (by omega) j (by omega)
            have c1b := S2.out.c1 R (by omega) jN (by have := HN.out; omega)
            have f1a := S2.out.f1 R (by omega) j (by omega)
            have f1b := S2.out.f1 R (by omega) jN (by have := HN.out; omega)
            obtain ⟨u1, c1c⟩ := S2.out.c2 R (by omega) j jN (by omega) (by have := HN.out; omega) (enc y1)
            rw [← HX.out] at c1a
            rw [← HY.out] at c1b
            have HI' : Aside (Rot (j - 1) i (i + 1) (ix dk) (ix (swp dj j jN))) := by
              refine Rot.down HI.out ?_ (by omega) hji
              rw [HN.out]
              exact swp_ix dj (by omega) (by omega)
            clear S2
            go_wp2_with fail
            go_big_region_o
            clear c1a c1b c1c f1a f1b
            generalize ((w2.setCell ⟨blk, off + j, none⟩ (enc y1)).setCell ⟨blk, off + jN, none⟩ (enc x1)).drew = w3 at S3 ⊢
            clear ea ec
            go_wp2
            go_roundg (j - 1)
            case measure => omega
            case rel => exact ⟨j - 1, swp dj j jN, by first | rfl | go_num | (congr 1; omega), by omega, by omega, Nat.le_refl _, by rw [size_swp]; exact hsj, S3, HI', .inr (by rw [← vx.out, ← vy.out]; exact HR.out)⟩
          · have hd1 : decide (cf x1 y1 < 0) = false := decide_eq_false hlv
            have HR : Aside (r y1 < r x1) := HK.out.hi _ _ lt1 hlv
            clear lt1
            go_wp2_with fail
            go_quiet_grown (first | (go_at_fn g; refine Calls.grown_of (hc1 _ _)))
            have S2 : Aside (SW enc w0 blk off dj (grow (wr.drewN nq) osq)) := SJ.out.grown nq osq
            clear l1a l1b hc1 SJ
            generalize grow (wr.drewN nq) osq = w2 at S2 ⊢
            clear nq osq ea ec
            obtain ⟨o1, o2⟩ := OUT.out (.inr (by rw [← vx.out, ← vy.out]; exact HR.out))
            have O1 : Aside _ := o1
            have O2 : Aside _ := o2
            clear o1 o2
            go_wp2
            go_roundg (b - (i + 1))
            case measure => omega
            case rel => exact ⟨i + 1, dj, by go_num, by omega, by omega, by omega, hsj, S2, O1, O2⟩
        · have hjaz : decide ((j : Int) > (a : Int)) = false := decide_eq_false (by omega)
          have hjaz' : ¬ (a : Int) < (j : Int) := by omega
          obtain ⟨o1, o2⟩ := OUT.out (.inl (by omega))
          have O1 : Aside _ := o1
          have O2 : Aside _ := o2
          clear o1 o2
          go_wp2_with fail
          go_big_region_o
          have S2 : Aside (SW enc w0 blk off dj wr.drew) := SJ.out.drew
          clear SJ
          generalize wr.drew = w2 at S2 ⊢
          go_wp2
          go_roundg (b - (i + 1))
          case measure => omega
          case rel => exact ⟨i + 1, dj, by go_num, by omega, by omega, by omega, hsj, S2, O1, O2⟩
    · have hltz : ¬ (i : Int) < (b : Int) := by omega
      go_wp2
      go_end0
      have hM := HM.out
      rw [show min i b = b by omega] at hM
      exact ⟨rfl, dk, S1.out, hsk, fun p q h1 h2 h3 => HO.out p q h1 h2 (by omega), hM⟩
end Go.Proofs.Ytfikllghajhigaa

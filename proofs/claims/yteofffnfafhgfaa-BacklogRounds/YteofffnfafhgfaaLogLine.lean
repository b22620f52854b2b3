/- A log with a queue of one: how many messages are out, and whether one waits; what each call makes of it. No condition. -/
import Derived.Test.YteofffnfafhgfaaLogAlive
namespace Go.Proofs.Yteofffnfafhgfaa
open Go.RowKit
set_option linter.unusedVariables false

/-- a log modulo M, a window of W, a queue of one; the first number is f, n are out, x waits (or none) -/
def LgS (w v : World) (b M W f n : Nat) (x : Option (List UInt8)) : Prop :=
  ∃ s : Lg, LgOne w v b s ∧ s.m = M ∧ s.W = W ∧ s.Q = 1 ∧ s.f = f ∧ s.n = n ∧ match x with
    | none => s.l.length = n
    | some x => s.l.length = n + 1 ∧ s.l.getD n [] = x
section
variable {w v v' : World} {b M W f n : Nat} {x : Option (List UInt8)}
theorem LgS.bel (h : LgS w v b M W f n x) : Below w.heap.size w v := by obtain ⟨s, h, _⟩ := h; exact h.bel
theorem LgS.beside (h : LgS w v b M W f n x) (hb : Below v.heap.size v v') : LgS w v' b M W f n x := by
  obtain ⟨s, h, h'⟩ := h
  exact ⟨s, h.beside hb, h'⟩
theorem LgS.drewN (h : LgS w v b M W f n x) (k : Nat) : LgS w (v.drewN k) b M W f n x := by
  obtain ⟨s, h, h'⟩ := h
  exact ⟨s, h.drewN k, h'⟩
theorem LgS.facts (h : LgS w v b M W f n x) : 8 ≤ M ∧ M ≤ 32768 ∧ f < M ∧ n ≤ W ∧ n < M := by
  obtain ⟨s, h, rfl, rfl, h3, rfl, rfl, h6⟩ := h
  have ok := h.ok
  exact ⟨ok.m8, ok.m9, ok.f9, ok.n9, Lg.n_lt ok⟩
theorem LgS.add (h : LgS w v b M W f n none) (B : Option Addr) (d : Nat) (x : List UInt8) (hr : Rd v B x) (hx : x.length ≤ 1048576) :
    Calls Try.prog 10 #[.pointer (some ⟨b, 0, none⟩), .slice B x.length d] v fun e v' => e = .returned (.int .i64 0) ∧ LgS w v' b M W f n (some x) := by
  obtain ⟨s, h, h1, h2, h3, h4, h5, h6⟩ := h
  have hf : s.full = false := by unfold Lg.full; rw [h3, h6, h5]; exact decide_eq_false (by omega)
  refine (h.add B d x hr hx).mono ?_
  rintro e v' ⟨rfl, h'⟩
  refine ⟨by unfold Lg.addE; rw [hf]; rfl, s.add x, h', ?_⟩
  unfold Lg.add
  rw [hf]
  refine ⟨h1, h2, h3, h4, h5, ?_, ?_⟩
  · show (s.l ++ [x]).length = _
    simp [h6]
  · show (s.l ++ [x]).getD n [] = x
    rw [List.getD_eq_getElem?_getD, List.getElem?_append_right (by omega), h6]
    simp
theorem LgS.stop_some {s : Lg} {y : List UInt8} (h5 : s.n = n) (h6 : s.l.length = n + 1) : s.stop = decide (s.W ≤ n) := by
  unfold Lg.stop
  rw [h5, h6]
  simp
theorem LgS.next {y : List UInt8} (h : LgS w v b M W f n (some y)) (hn : n < W) :
    Calls Try.prog 11 #[.pointer (some ⟨b, 0, none⟩)] v fun e v' => ∃ A c, e = .returned (.tuple #[.int .i64 (((f + n) % M : Nat) : Int), .slice A y.length c, .bool true]) ∧ Rd v' A y ∧ LgS w v' b M W f (n + 1) none := by
  obtain ⟨s, h, h1, h2, h3, h4, h5, h6, h7⟩ := h
  have hs : s.stop = false := by rw [LgS.stop_some (y := y) h5 h6, h2]; exact decide_eq_false (by omega)
  have e1 : s.nextN = (f + n) % M := by unfold Lg.nextN Lg.nx; rw [hs, h4, h5, h1]; rfl
  have e2 : s.nextX = y := by unfold Lg.nextX; rw [hs, h5, h7]; rfl
  have c := h.next
  rw [e1, e2, hs] at c
  refine c.mono ?_
  rintro e v' ⟨A, c, rfl, rd, h'⟩
  refine ⟨A, c, rfl, rd, s.next, h', ?_⟩
  unfold Lg.next
  rw [hs]
  exact ⟨h1, h2, h3, h4, by show s.n + 1 = _; rw [h5], h6⟩
theorem LgS.next_no {y : List UInt8} (h : LgS w v b M W f n (some y)) (hn : W ≤ n) :
    Calls Try.prog 11 #[.pointer (some ⟨b, 0, none⟩)] v fun e v' => ∃ A c, e = .returned (.tuple #[.int .i64 0, .slice A 0 c, .bool false]) ∧ LgS w v' b M W f n (some y) := by
  obtain ⟨s, h, h1, h2, h3, h4, h5, h6, h7⟩ := h
  have hs : s.stop = true := by rw [LgS.stop_some (y := y) h5 h6, h2]; exact decide_eq_true (by omega)
  have e1 : s.nextN = 0 := by unfold Lg.nextN; rw [hs]; rfl
  have e2 : s.nextX = [] := by unfold Lg.nextX; rw [hs]; rfl
  have c := h.next
  rw [e1, e2, hs] at c
  refine c.mono ?_
  rintro e v' ⟨A, c, rfl, rd, h'⟩
  refine ⟨A, c, rfl, s.next, h', ?_⟩
  unfold Lg.next
  rw [hs]
  exact ⟨h1, h2, h3, h4, h5, h6, h7⟩
/-- a number that is out, or the next one -/
theorem LgS.ack (h : LgS w v b M W f n x) {d : Nat} (hd : d ≤ n) (hi : M ≤ 32768) :
    Calls Try.prog 15 #[.pointer (some ⟨b, 0, none⟩), .int .i64 (((f + d) % M : Nat) : Int)] v fun e v' => e = .returned (.tuple #[.int .i64 (d : Int), .bool true]) ∧ LgS w v' b M W ((f + d) % M) (n - d) x := by
  obtain ⟨s, h, rfl, h2, h3, rfl, rfl, h6⟩ := h
  have ok := h.ok
  have hm := ok.m8
  have hlt := Lg.n_lt ok
  have hj : (s.f + d) % s.m < s.m := Nat.mod_lt _ (by omega)
  have hds : s.ds ((s.f + d) % s.m) = d := (Lg.num_ds ok (by omega) hj).1 rfl
  have hh : s.hit (((s.f + d) % s.m : Nat) : Int) = true := by rw [Lg.hit_nat hj, hds]; exact decide_eq_true hd
  have eN : s.ackN (((s.f + d) % s.m : Nat) : Int) = d := by unfold Lg.ackN; rw [hh, Int.toNat_natCast, hds]; rfl
  refine (h.ack _ (by unfold I64; omega)).mono ?_
  rintro e v' ⟨rfl, h'⟩
  refine ⟨by rw [eN, hh], _, h', ?_⟩
  unfold Lg.ack
  rw [hh, Int.toNat_natCast, hds]
  refine ⟨rfl, h2, h3, rfl, rfl, ?_⟩
  rcases x with _ | x
  · show (s.l.drop d).length = _
    rw [List.length_drop, h6]
  · refine ⟨?_, ?_⟩
    · show (s.l.drop d).length = _
      rw [List.length_drop, h6.1]
      omega
    · show (s.l.drop d).getD (s.n - d) [] = x
      rw [List.getD_eq_getElem?_getD, List.getElem?_drop, ← List.getD_eq_getElem?_getD, show d + (s.n - d) = s.n by omega]
      exact h6.2
/-- no such number -/
theorem LgS.ack_no (h : LgS w v b M W f n x) {k : Int} (hk : I64 k) (hd : ∀ d, d ≤ n → k ≠ (((f + d) % M : Nat) : Int)) :
    Calls Try.prog 15 #[.pointer (some ⟨b, 0, none⟩), .int .i64 k] v fun e v' => e = .returned (.tuple #[.int .i64 0, .bool false]) ∧ LgS w v' b M W f n x := by
  obtain ⟨s, h, rfl, h2, h3, rfl, rfl, h6⟩ := h
  have ok := h.ok
  have hh : s.hit k = false := by
    cases hh : s.hit k
    · rfl
    · obtain ⟨j, rfl, hj, hdj⟩ := Lg.hit_true hh
      have := (Lg.num_ds ok (Lg.ds_lt ok j) hj).2 rfl
      exact absurd (by rw [this]) (hd (s.ds j) hdj)
  have eN : s.ackN k = 0 := by unfold Lg.ackN; rw [hh]; rfl
  have eA : s.ack k = s := by unfold Lg.ack; rw [hh]; rfl
  refine (h.ack k hk).mono ?_
  rintro e v' ⟨rfl, h'⟩
  rw [eA] at h'
  exact ⟨by rw [eN, hh]; rfl, s, h', rfl, h2, h3, rfl, rfl, h6⟩
theorem LgS.out (h : LgS w v b M W f n x) :
    Calls Try.prog 22 #[.pointer (some ⟨b, 0, none⟩)] v fun e v' => ∃ A c, e = .returned (.slice A n c) ∧ LgS w v' b M W f n x := by
  obtain ⟨s, h, h1, h2, h3, h4, rfl, h6⟩ := h
  refine h.out.mono ?_
  rintro e v' ⟨A, c, rfl, h'⟩
  exact ⟨A, c, rfl, s, h', h1, h2, h3, h4, rfl, h6⟩
theorem LgS.len (h : LgS w v b M W f n none) :
    Calls Try.prog 24 #[.pointer (some ⟨b, 0, none⟩)] v fun e v' => e = .returned (.int .i64 (n : Int)) ∧ v' = v := by
  obtain ⟨s, h, h1, h2, h3, h4, h5, h6⟩ := h
  refine h.len.mono ?_
  rintro e v' ⟨rfl, rfl⟩
  exact ⟨by rw [h6], rfl⟩
end
theorem LgS.fresh {w v : World} (bel : Below w.heap.size w v) {M W : Nat} (h1 : 8 ≤ M) (h2 : M ≤ 32768) (h3 : 1 ≤ W) (h4 : W * 8 ≤ M) : LgS w (v.alloc (.cells (lgc (Lg.new M W 1).m (Lg.new M W 1).W (Lg.new M W 1).Q 0 0 none 0 0) 53)) v.heap.size M W 0 0 none :=
  ⟨_, LgOne.fresh bel M W 1, by simp only [Lg.new]; omega, by simp only [Lg.new]; omega, by simp only [Lg.new]; omega, rfl, rfl, rfl⟩
end Go.Proofs.Yteofffnfafhgfaa

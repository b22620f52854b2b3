/- An end that is Up, by the absolute numbers of its messages: what is acknowledged, sent again, sent for the first time. No condition. -/
import Derived.Test.YtgkdabllaankcaaG15
namespace Go.Proofs.Ytgkdabllaankcaa
set_option linter.unusedVariables false

/-- the I with the absolute number x; a CRR or CREJ; the I's with the numbers from a to b - 1 -/
def itI (m e : Nat) (S : List (List UInt8)) (p : Bool) (x : Nat) : List UInt8 := Aq.hd 1 ++ enc 0 ((x % m : Nat) : Int) (e : Int) p (m : Int) ++ S.getD x []
def itR (k : Int) (m e : Nat) (p : Bool) : List UInt8 := Aq.hd 1 ++ enc k 0 (e : Int) p (m : Int) ++ []
def mapR (f : Nat → List UInt8) (a b : Nat) : List (List UInt8) := (List.range (b - a)).map fun i => f (a + i)
def itsI (m e : Nat) (S : List (List UInt8)) (a b : Nat) : List (List UInt8) := mapR (itI m e S false) a b
/-- an end of the session 1 that has taken the messages S, of which F are acknowledged, and T are acknowledged or out -/
structure Snd (S : List (List UInt8)) (F T : Nat) (s : Aq) : Prop where
  ok : s.Ok
  st : s.st = 2
  tg : s.tg = 1
  f : s.lg.f = F % s.m
  n : s.lg.n = T - F
  ft : F ≤ T
  l : s.lg.l = S.drop F
  ts : T ≤ S.length
  sn : s.sn = S.length
  ak : s.ak = F
  lo : s.lo = 0
/-- all else is as it was -/
structure Like (s s' : Aq) : Prop where
  od : s'.od = s.od
  is : s'.is = s.is
  rj : s'.rj = s.rj
  m : s'.m = s.m
  sz : s'.sz = s.sz
  t1 : s'.t1 = s.t1
  n2 : s'.n2 = s.n2
  W : s'.lg.W = s.lg.W
  Q : s'.lg.Q = s.lg.Q
  tr : s.tr ≤ s.n2 → s'.tr ≤ s'.n2
theorem Like.refl (s : Aq) : Like s s := ⟨rfl, rfl, rfl, rfl, rfl, rfl, rfl, rfl, rfl, fun h => h⟩
theorem Like.trans {s s' s2 : Aq} (h : Like s s') (k : Like s' s2) : Like s s2 :=
  ⟨k.od.trans h.od, k.is.trans h.is, k.rj.trans h.rj, k.m.trans h.m, k.sz.trans h.sz, k.t1.trans h.t1, k.n2.trans h.n2, k.W.trans h.W, k.Q.trans h.Q, fun h0 => k.tr (h.tr h0)⟩
section
variable {S : List (List UInt8)} {F T N : Nat} {s : Aq}
theorem mapR_len (f : Nat → List UInt8) (a b : Nat) : (mapR f a b).length = b - a := by simp [mapR]
theorem mapR_none (f : Nat → List UInt8) (a : Nat) : mapR f a a = [] := by simp [mapR]
theorem mapR_first (f : Nat → List UInt8) {a b : Nat} (h : a < b) : mapR f a b = f a :: mapR f (a + 1) b := by
  unfold mapR
  rw [show b - a = (b - (a + 1)) + 1 by omega, List.range_succ_eq_map, List.map_cons, List.map_map]
  congr 1
  refine List.map_congr_left fun i _ => ?_
  show f (a + (i + 1)) = f (a + 1 + i)
  rw [show a + (i + 1) = a + 1 + i by omega]
theorem mapR_cat (f : Nat → List UInt8) {a b c : Nat} (h : a ≤ b) (k : b ≤ c) : mapR f a b ++ mapR f b c = mapR f a c := by
  unfold mapR
  rw [show c - a = (b - a) + (c - b) by omega, List.range_add, List.map_append, List.map_map]
  congr 1
  refine List.map_congr_left fun i _ => ?_
  show f (b + i) = f (a + (b - a + i))
  rw [show a + (b - a + i) = b + i by omega]
theorem mapR_snoc (f : Nat → List UInt8) {a b : Nat} (h : a ≤ b) : mapR f a (b + 1) = mapR f a b ++ [f b] := by
  rw [← mapR_cat f h (Nat.le_succ b), mapR_first f (Nat.lt_succ_self b), mapR_none]
theorem mapR_mem {f : Nat → List UInt8} {a b : Nat} {x : List UInt8} (h : x ∈ mapR f a b) : ∃ i, a ≤ i ∧ i < b ∧ x = f i := by
  unfold mapR at h
  obtain ⟨i, hi, rfl⟩ := List.mem_map.1 h
  have := List.mem_range.1 hi
  exact ⟨a + i, by omega, by omega, rfl⟩
theorem itsI_none (m e : Nat) (S : List (List UInt8)) (a : Nat) : itsI m e S a a = [] := mapR_none _ _
theorem itsI_first (m e : Nat) (S : List (List UInt8)) {a b : Nat} (h : a < b) : itsI m e S a b = itI m e S false a :: itsI m e S (a + 1) b := mapR_first _ h
theorem Snd.w (h : Snd S F T s) : T - F ≤ s.lg.W ∧ s.lg.W * 8 ≤ s.m ∧ s.lg.m = s.m ∧ 8 ≤ s.m := by
  have h1 := h.ok.lg.n9; have h2 := h.ok.lg.w8; have h3 := h.ok.lgm; have h4 := h.ok.lg.m8
  rw [h.n] at h1; rw [h3] at h2 h4
  exact ⟨h1, h2, h3, h4⟩
theorem drop_getD (S : List (List UInt8)) (F j : Nat) : (S.drop F).getD j [] = S.getD (F + j) [] := by
  rw [List.getD_eq_getElem?_getD, List.getD_eq_getElem?_getD, List.getElem?_drop]
/-- the number of the j-th that is out, and how far it lies behind -/
theorem Snd.num (h : Snd S F T s) (j : Nat) (hj : j < s.m) : (s.lg.f + j) % s.lg.m = (F + j) % s.m ∧ s.lg.ds ((F + j) % s.m) = j ∧ (F + j) % s.m < s.lg.m := by
  obtain ⟨h1, h2, h3, h4⟩ := h.w
  have e : (s.lg.f + j) % s.lg.m = (F + j) % s.m := by rw [h3, h.f, Nat.mod_add_mod]
  have hlt : (F + j) % s.m < s.lg.m := by rw [h3]; exact Nat.mod_lt _ (by omega)
  exact ⟨e, (Lg.num_ds h.ok.lg (by omega) hlt).1 e, hlt⟩
theorem Snd.retrL (h : Snd S F T s) : ∀ j, j ≤ T - F → s.retrL ((List.range j).map fun i => (s.lg.f + i) % s.lg.m) = { s with os := s.os ++ (List.range j).map (fun i => itI s.m s.od.e S false (F + i)), lf := if j = 0 then s.lf else s.t1 }
  | 0, _ => by
    show s = { s with os := s.os ++ [], lf := if 0 = 0 then s.lf else s.t1 }
    rw [List.append_nil, if_pos rfl]
  | j + 1, hj => by
    have IH := h.retrL j (by omega)
    obtain ⟨w1, w2, w3, w4⟩ := h.w
    obtain ⟨n1, n2, n3⟩ := h.num j (by omega)
    have hbody : s.lg.body (((F + j) % s.m : Nat) : Int) = S.getD (F + j) [] := by
      unfold Lg.body
      rw [Lg.has_nat n3, n2, if_pos (by simp; rw [h.n]; omega), Int.toNat_natCast, n2, h.l, drop_getD]
    rw [List.range_succ, List.map_append, List.map_singleton, n1, List.map_append, List.map_singleton]
    unfold Aq.retrL at IH ⊢
    rw [List.foldl_append, IH, if_neg (Nat.succ_ne_zero j)]
    show Aq.retrStep _ ((F + j) % s.m) = _
    unfold Aq.retrStep Aq.sendM Aq.put Aq.start itI
    simp only [hbody, List.append_assoc, h.tg]
theorem Snd.retr (h : Snd S F T s) : Snd S F T s.retr ∧ Like s s.retr ∧ s.retr.os = s.os ++ itsI s.m s.od.e S F T ∧ s.retr.tr = s.tr := by
  have e : s.retr = { s with os := s.os ++ itsI s.m s.od.e S F T, lf := if T - F = 0 then s.lf else s.t1 } := by
    unfold Aq.retr Lg.out
    rw [h.n]
    exact h.retrL (T - F) (Nat.le_refl _)
  have ok := h.ok.retr
  rw [e] at ok ⊢
  exact ⟨⟨ok, h.st, h.tg, h.f, h.n, h.ft, h.l, h.ts, h.sn, h.ak, h.lo⟩, ⟨rfl, rfl, rfl, rfl, rfl, rfl, rfl, rfl, rfl, fun h => h⟩, rfl, rfl⟩
theorem Snd.pumpStep (h : Snd S F T s) (hs : s.lg.stop = false) : Snd S F (T + 1) s.pumpStep ∧ Like s s.pumpStep ∧ s.pumpStep.os = s.os ++ [itI s.m s.od.e S false T] ∧ s.pumpStep.tr = s.tr := by
  obtain ⟨w1, w2, w3, w4⟩ := h.w
  obtain ⟨g1, g2⟩ := Lg.stop_false hs
  have hl : s.lg.l.length = S.length - F := by rw [h.l, List.length_drop]
  have hT : T < S.length := by have := h.n; have := h.ts; have := h.ft; omega
  have hN : s.lg.nextN = T % s.m := by
    unfold Lg.nextN Lg.nx
    rw [hs, if_neg (by simp), h.f, h.n, w3, Nat.mod_add_mod, show F + (T - F) = T by have := h.ft; omega]
  have hX : s.lg.nextX = S.getD T [] := by
    unfold Lg.nextX
    rw [hs, if_neg (by simp), h.l, h.n, drop_getD, show F + (T - F) = T by have := h.ft; omega]
  have hL : s.lg.next = ⟨s.lg.m, s.lg.W, s.lg.Q, s.lg.f, s.lg.n + 1, s.lg.l⟩ := by unfold Lg.next; rw [hs, if_neg (by simp)]
  have e : (s.setLg s.lg.next).sendM s.lg.nextN s.lg.nextX false = { s with lg := ⟨s.lg.m, s.lg.W, s.lg.Q, s.lg.f, s.lg.n + 1, s.lg.l⟩, os := s.os ++ [itI s.m s.od.e S false T] } := by
    rw [hL, hN, hX]
    unfold Aq.sendM Aq.put Aq.setLg itI
    simp only [h.tg]
  have ok := h.ok.pumpStep
  have hn : s.lg.n + 1 = T + 1 - F := by have := h.n; have := h.ft; omega
  unfold Aq.pumpStep at ok ⊢
  rw [e] at ok ⊢
  split
  · next hc => rw [if_pos hc] at ok; exact ⟨⟨ok, h.st, h.tg, h.f, hn, by have := h.ft; omega, h.l, hT, h.sn, h.ak, h.lo⟩, ⟨rfl, rfl, rfl, rfl, rfl, rfl, rfl, rfl, rfl, fun h => h⟩, rfl, rfl⟩
  · next hc => rw [if_neg hc] at ok; exact ⟨⟨ok, h.st, h.tg, h.f, hn, by have := h.ft; omega, h.l, hT, h.sn, h.ak, h.lo⟩, ⟨rfl, rfl, rfl, rfl, rfl, rfl, rfl, rfl, rfl, fun h => h⟩, rfl, rfl⟩
theorem Snd.pumpN : ∀ (f : Nat) {T : Nat} {s : Aq}, Snd S F T s → S.length - T ≤ f → Snd S F (min S.length (F + s.lg.W)) (Aq.pumpN f s) ∧ Like s (Aq.pumpN f s) ∧ (Aq.pumpN f s).os = s.os ++ itsI s.m s.od.e S T (min S.length (F + s.lg.W)) ∧ (Aq.pumpN f s).tr = s.tr
  | 0, T, s, h, hf => by
    obtain ⟨w1, w2, w3, w4⟩ := h.w
    have hT : min S.length (F + s.lg.W) = T := by have := h.ts; have := h.ft; omega
    rw [hT, itsI_none, List.append_nil]
    exact ⟨h, Like.refl _, rfl, rfl⟩
  | f + 1, T, s, h, hf => by
    obtain ⟨w1, w2, w3, w4⟩ := h.w
    have hl : s.lg.l.length = S.length - F := by rw [h.l, List.length_drop]
    have ht := h.ts
    have hft := h.ft
    have hn := h.n
    unfold Aq.pumpN
    cases hs : s.lg.stop with
    | true =>
      have hT : min S.length (F + s.lg.W) = T := by
        unfold Lg.stop at hs
        simp at hs
        omega
      rw [if_pos rfl, hT, itsI_none, List.append_nil]
      exact ⟨h, Like.refl _, rfl, rfl⟩
    | false =>
      obtain ⟨g1, g2⟩ := Lg.stop_false hs
      obtain ⟨a1, a2, a3, a4⟩ := h.pumpStep hs
      obtain ⟨b1, b2, b3, b4⟩ := Snd.pumpN f a1 (by omega)
      rw [if_neg (by simp)]
      rw [a2.W] at b1 b3
      refine ⟨b1, a2.trans b2, ?_, b4.trans a4⟩
      rw [b3, a3, a2.m, a2.od, List.append_assoc, List.singleton_append, ← itsI_first s.m s.od.e S (a := T) (by omega)]
theorem Snd.pump (h : Snd S F T s) : Snd S F (min S.length (F + s.lg.W)) s.pump ∧ Like s s.pump ∧ s.pump.os = s.os ++ itsI s.m s.od.e S T (min S.length (F + s.lg.W)) ∧ s.pump.tr = s.tr := by
  refine Snd.pumpN _ h ?_
  have hl : s.lg.l.length = S.length - F := by rw [h.l, List.length_drop]
  have := h.n; have := h.ft
  omega
/-- messages up to the number N are acknowledged -/
theorem Snd.acks (h : Snd S F T s) (h1 : F ≤ N) (h2 : N ≤ T) : Snd S N T (s.acks ((N % s.m : Nat) : Int)) ∧ Like s (s.acks ((N % s.m : Nat) : Int)) ∧ (s.acks ((N % s.m : Nat) : Int)).os = s.os ∧ (s.acks ((N % s.m : Nat) : Int)).tr = (if N = F then s.tr else 0) ∧ s.lg.hit ((N % s.m : Nat) : Int) = true := by
  obtain ⟨w1, w2, w3, w4⟩ := h.w
  obtain ⟨n1, n2, n3⟩ := h.num (N - F) (by omega)
  rw [show F + (N - F) = N by omega] at n1 n2 n3
  have hh : s.lg.hit ((N % s.m : Nat) : Int) = true := by rw [Lg.hit_nat n3, n2, h.n]; exact decide_eq_true (by omega)
  have hack : s.lg.ack ((N % s.m : Nat) : Int) = ⟨s.lg.m, s.lg.W, s.lg.Q, N % s.m, T - N, S.drop N⟩ := by
    unfold Lg.ack
    rw [hh, if_pos rfl, Int.toNat_natCast, n2, h.n, h.l, List.drop_drop, show T - F - (N - F) = T - N by omega, show F + (N - F) = N by omega]
  have hN : s.lg.ackN ((N % s.m : Nat) : Int) = N - F := by unfold Lg.ackN; rw [hh, if_pos rfl, Int.toNat_natCast, n2]
  have ok := h.ok.acks ((N % s.m : Nat) : Int)
  unfold Aq.acks at ok ⊢
  rw [hN, hack] at ok ⊢
  by_cases c : N = F
  · subst c
    rw [if_pos (by omega)] at ok ⊢
    exact ⟨⟨ok, h.st, h.tg, rfl, rfl, h2, rfl, h.ts, h.sn, h.ak, h.lo⟩, ⟨rfl, rfl, rfl, rfl, rfl, rfl, rfl, rfl, rfl, fun h => h⟩, rfl, by rw [if_pos rfl]; rfl, hh⟩
  · rw [if_neg (by omega)] at ok ⊢
    exact ⟨⟨ok, h.st, h.tg, rfl, rfl, h2, rfl, h.ts, h.sn, by show s.ak + (N - F) = N; rw [h.ak]; omega, h.lo⟩, ⟨rfl, rfl, rfl, rfl, rfl, rfl, rfl, rfl, rfl, fun _ => Nat.zero_le _⟩, rfl, by rw [if_neg c], hh⟩
/-- a CRR comes -/
theorem Snd.rr (h : Snd S F T s) (h1 : F ≤ N) (h2 : N ≤ T) (p : Bool) : Snd S N (min S.length (N + s.lg.W)) (s.input (itR 1 s.m (N % s.m) p)) ∧ Like s (s.input (itR 1 s.m (N % s.m) p)) ∧ (s.input (itR 1 s.m (N % s.m) p)).os = s.os ++ itsI s.m s.od.e S T (min S.length (N + s.lg.W)) ∧ (s.input (itR 1 s.m (N % s.m) p)).tr = (if N = F then s.tr else 0) := by
  obtain ⟨w1, w2, w3, w4⟩ := h.w
  have hr := Aq.right_RR h.ok.m2 (.inl rfl) (Nat.mod_lt N (by omega : 0 < s.m))
  have hin : s.input (itR 1 s.m (N % s.m) p) = (s.acks ((N % s.m : Nat) : Int)).pump := by
    unfold itR
    rw [Aq.input_enc (s := s) (t := 1) (by decide) (p := p) (x := []) hr]
    unfold Aq.proc
    rw [if_neg (by decide), if_neg (by decide), if_neg (by decide), if_neg (by decide), if_neg (by decide)]
    unfold Aq.numbd
    rw [if_neg (by rw [h.st]; decide), if_pos ⟨h.tg.symm, h.st⟩, if_neg (by simp)]
    unfold Aq.exch
    rw [if_neg (by decide), if_neg (by simp)]
  obtain ⟨a1, a2, a3, a4, -⟩ := h.acks h1 h2
  obtain ⟨b1, b2, b3, b4⟩ := a1.pump
  rw [hin]
  rw [a2.W] at b1 b3
  rw [a3, a2.m, a2.od] at b3
  exact ⟨b1, a2.trans b2, b3, b4.trans a4⟩
end
end Go.Proofs.Ytgkdabllaankcaa

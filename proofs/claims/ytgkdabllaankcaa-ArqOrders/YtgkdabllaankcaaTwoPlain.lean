/- Two ends that both send over lines that lose, plainly: what is under way, and what holds of the numbers. No condition. -/
import Derived.Test.YtgkdabllaankcaaRcvPlain
import Derived.Test.YtgkdabllaankcaaPairFlow
namespace Go.Proofs.Ytgkdabllaankcaa
set_option linter.unusedVariables false

/-- what is under way: a message, or an acknowledgement (a CREJ or a CRR), by absolute numbers -/
inductive It where
  | msg (x nr : Nat) (q : Bool)
  | ack (rej : Bool) (nr : Nat) (q : Bool)
namespace It
def nr : It → Nat
  | msg _ n _ => n
  | ack _ n _ => n
def bytes (M : Nat) (S : List (List UInt8)) : It → List UInt8
  | msg x n q => itI M (n % M) S q x
  | ack k n q => itR (if k then 2 else 1) M (n % M) q
end It
/-- the numbers acknowledged rise from lo to hi -/
def Nrs (lo hi : Nat) : List It → Prop
  | [] => lo ≤ hi
  | t :: l => lo ≤ t.nr ∧ Nrs t.nr hi l
/-- every message comes at most W behind what came before it, and lies below T -/
def Xs (W T : Nat) : Nat → List It → Prop
  | _, [] => True
  | b, .msg x _ _ :: l => b ≤ x + W ∧ x < T ∧ Xs W T (max b (x + 1)) l
  | b, .ack _ _ _ :: l => Xs W T b l
section
variable {lo lo' hi hi' W T T' b b' F : Nat} {t : It} {l n : List It}
theorem Nrs.le : ∀ {l : List It} {lo : Nat}, Nrs lo hi l → lo ≤ hi
  | [], _, h => h
  | t :: l, _, h => Nat.le_trans h.1 (Nrs.le h.2)
theorem Nrs.weaken (h : Nrs lo hi l) (k : lo' ≤ lo) : Nrs lo' hi l := by
  cases l with
  | nil => exact Nat.le_trans k h
  | cons t l => exact ⟨Nat.le_trans k h.1, h.2⟩
theorem Nrs.tail (h : Nrs lo hi (t :: l)) : Nrs lo hi l := h.2.weaken h.1
theorem Nrs.raise : ∀ {l : List It} {lo : Nat}, Nrs lo hi l → hi ≤ hi' → Nrs lo hi' l
  | [], _, h, k => Nat.le_trans h k
  | t :: l, _, h, k => ⟨h.1, Nrs.raise h.2 k⟩
theorem Nrs.start : ∀ {n : List It} {lo : Nat}, lo ≤ hi → (∀ t ∈ n, t.nr = hi) → Nrs lo hi n
  | [], _, h, _ => h
  | t :: n, lo, h, k => ⟨by rw [k t List.mem_cons_self]; exact h, Nrs.start (by rw [k t List.mem_cons_self]; exact Nat.le_refl _) (fun u hu => k u (List.mem_cons_of_mem _ hu))⟩
theorem Nrs.more : ∀ {l : List It} {lo : Nat}, Nrs lo hi l → (∀ t ∈ n, t.nr = hi) → Nrs lo hi (l ++ n)
  | [], lo, h, k => Nrs.start h k
  | t :: l, _, h, k => ⟨h.1, Nrs.more h.2 k⟩
theorem Xs.weaken : ∀ {l : List It} {b b' : Nat}, Xs W T b l → b' ≤ b → Xs W T b' l
  | [], _, _, _, _ => trivial
  | .msg x m q :: l, b, b', h, k => ⟨Nat.le_trans k h.1, h.2.1, Xs.weaken h.2.2 (by omega)⟩
  | .ack j m q :: l, b, b', h, k => Xs.weaken (l := l) h k
theorem Xs.raise : ∀ {l : List It} {b : Nat}, Xs W T b l → T ≤ T' → Xs W T' b l
  | [], _, _, _ => trivial
  | .msg x m q :: l, b, h, k => ⟨h.1, Nat.lt_of_lt_of_le h.2.1 k, Xs.raise h.2.2 k⟩
  | .ack j m q :: l, b, h, k => Xs.raise (l := l) h k
/-- what is new -/
def New (F T e : Nat) (n : List It) : Prop := ∀ t ∈ n, t.nr = e ∧ ∀ x m q, t = .msg x m q → F ≤ x ∧ x < T
theorem Xs.start : ∀ {n : List It} {b : Nat}, b ≤ T → T ≤ F + W → (∀ t ∈ n, ∀ x m q, t = .msg x m q → F ≤ x ∧ x < T) → Xs W T b n
  | [], _, _, _, _ => trivial
  | .msg x m q :: n, b, hb, hT, k => by
    obtain ⟨k1, k2⟩ := k _ List.mem_cons_self x m q rfl
    exact ⟨by omega, k2, Xs.start (by omega) hT (fun t ht => k t (List.mem_cons_of_mem _ ht))⟩
  | .ack j m q :: n, b, hb, hT, k => Xs.start (n := n) hb hT (fun t ht => k t (List.mem_cons_of_mem _ ht))
theorem Xs.more : ∀ {l : List It} {b : Nat}, Xs W T b l → b ≤ T → T ≤ F + W → (∀ t ∈ n, ∀ x m q, t = .msg x m q → F ≤ x ∧ x < T) → Xs W T b (l ++ n)
  | [], b, _, hb, hT, k => Xs.start hb hT k
  | .msg x m q :: l, b, h, hb, hT, k => ⟨h.1, h.2.1, Xs.more h.2.2 (by have := h.2.1; omega) hT k⟩
  | .ack j m q :: l, b, h, hb, hT, k => Xs.more (l := l) h hb hT k
end
/-- how it is written does not change as more is said -/
theorem It.bytes_grow {M W T : Nat} {S : List (List UInt8)} (y : List UInt8) (hT : T ≤ S.length) : ∀ {l : List It} {b : Nat}, Xs W T b l → l.map (It.bytes M (S ++ [y])) = l.map (It.bytes M S)
  | [], _, _ => rfl
  | .msg x m q :: l, b, h => by
    rw [List.map_cons, List.map_cons, It.bytes_grow y hT h.2.2]
    congr 1
    show itI _ _ _ _ _ = itI _ _ _ _ _
    unfold itI
    have := h.2.1
    rw [List.getD_eq_getElem?_getD, List.getD_eq_getElem?_getD, List.getElem?_append_left (by omega)]
  | .ack j m q :: l, b, h => by
    rw [List.map_cons, List.map_cons, It.bytes_grow (l := l) y hT h]
    rfl
/-- the messages from a to b - 1 as they are under way -/
def msgsI (e a b : Nat) : List It := (List.range (b - a)).map fun i => .msg (a + i) e false
theorem msgsI_bytes (M e a b : Nat) (S : List (List UInt8)) : (msgsI e a b).map (It.bytes M S) = itsI M (e % M) S a b := by
  unfold msgsI itsI mapR
  rw [List.map_map]
  rfl
theorem msgsI_new {F T e a b : Nat} (h1 : F ≤ a) (h2 : b ≤ T) : New F T e (msgsI e a b) := by
  intro t ht
  obtain ⟨i, hi, rfl⟩ := List.mem_map.1 ht
  have := List.mem_range.1 hi
  refine ⟨rfl, fun x m q e => ?_⟩
  injection e with e1
  omega
theorem msgsI_len (e a b : Nat) : (msgsI e a b).length = b - a := by simp [msgsI]
theorem New.none (F T e : Nat) : New F T e [] := fun t ht => (List.not_mem_nil ht).elim
theorem New.cat {F T e : Nat} {l n : List It} (h : New F T e l) (k : New F T e n) : New F T e (l ++ n) := fun t ht => (List.mem_append.1 ht).elim (h t) (k t)
theorem New.one_ack {F T e : Nat} (k q : Bool) : New F T e [.ack k e q] := fun t ht => by
  rw [List.mem_singleton.1 ht]
  exact ⟨rfl, fun x m q e => by cases e⟩
theorem New.one_msg {F T e x : Nat} (q : Bool) (h1 : F ≤ x) (h2 : x < T) : New F T e [.msg x e q] := fun t ht => by
  rw [List.mem_singleton.1 ht]
  exact ⟨rfl, fun x m q e => by injection e with e1; omega⟩
/-- what is the same on both ends all along -/
structure Cfg (M W : Nat) (s : Aq) : Prop where
  m : s.m = M
  w : s.lg.W = W
  q : 20 ≤ s.lg.Q
  sz : s.sz = 50
  t1 : s.t1 = 10
  n2 : s.n2 = 100
  tr : s.tr ≤ s.n2
theorem Cfg.like {M W : Nat} {s s' : Aq} (h : Cfg M W s) (k : Like s s') : Cfg M W s' := ⟨k.m.trans h.m, k.W.trans h.w, by rw [k.Q]; exact h.q, k.sz.trans h.sz, k.t1.trans h.t1, k.n2.trans h.n2, k.tr h.tr⟩
/-- the numbers of one direction: F acknowledged, T acknowledged or out, E ready at the other end, none kept there at B or beyond -/
structure Nums where
  F : Nat
  T : Nat
  E : Nat
  B : Nat
  K : Nat → Prop
  /-- under way from this end -/
  w : List It
/-- what one end has sent and what of it came to the other one, z; E' : what is ready at this end of the other one's messages -/
structure Dir (M W : Nat) (S : List (List UInt8)) (x y : Nums) (s z : Aq) : Prop where
  snd : Snd S x.F x.T s
  rcv : Rcv M W S x.E x.B x.K z.od
  ne : ¬ x.K x.E
  fe : x.F ≤ x.E
  bt : x.B ≤ x.T
  ms : Xs W x.T x.B x.w
  ks : Nrs x.F x.E y.w
/-- two ends -/
structure Two (M W t : Nat) (p : Pr) (a : Bool → Nums) : Prop where
  dir : ∀ i, Dir M W (p.said i) (a i) (a (!i)) (p.a i) (p.a (!i))
  cfg : ∀ i, Cfg M W (p.a i)
  dry : ∀ i, (p.a i).Dry
  way : ∀ i, p.way i = (a i).w.map (It.bytes M (p.said i))
  heard : ∀ i, p.heard (!i) = (p.said i).take (a i).E
  downs : p.downs = 0
  small : ∀ i, ∀ x ∈ p.said i, x.length ≤ 50
  len : ∀ i, (p.said i).length ≤ t ∧ (p.way i).length ≤ 60 * t ∧ (p.a i).od.all ≤ t
end Go.Proofs.Ytgkdabllaankcaa

/- Package arq walked, part 15 of 15 (merged texts: OrdSay, AqSay, PairActs). No condition. -/
import Derived.Test.YtgkdabllaankcaaG1
import Derived.Test.YtgkdabllaankcaaG14
import Derived.Test.YtgkdabllaankcaaG5
/- An order, plainly: what Put makes of the expected number, of one that waits, of one that is there or too far. No condition. -/
namespace Go.Proofs.Ytgkdabllaankcaa
set_option linter.unusedVariables false
theorem mod_int {A : Int} {a M r : Nat} (h : A = (a : Int)) (hr : a % M = r) : A.tmod (M : Int) = (r : Int) ∧ A % (M : Int) = (r : Int) := by
  subst h hr
  rw [Int.tmod_eq_emod_of_nonneg (by omega), Int.natCast_emod]
  exact ⟨rfl, rfl⟩
theorem lk_none_of {α : Type} {l : List (Int × α)} {n : Int} (h : ∀ p ∈ l, p.1 ≠ n) : lk l n = none := fi_eq_len fun j q hj => h q (List.mem_of_getElem? hj)
theorem lk_some_of {α : Type} {n : Int} : ∀ {l : List (Int × α)} {p : Int × α}, p ∈ l → p.1 = n → ∃ x, lk l n = some x
  | [], _, h, _ => by cases h
  | q :: l, p, h, hn => by
    simp only [lk]
    split
    · exact ⟨_, rfl⟩
    · next hq =>
      rcases List.mem_cons.1 h with rfl | h
      · exact absurd hn hq
      · exact lk_some_of h hn
theorem dl_snoc {α : Type} {n : Int} {x : α} : ∀ {l : List (Int × α)}, lk l n = none → dl (l ++ [(n, x)]) n = l
  | [], _ => by simp [dl]
  | p :: l, h => by
    simp only [lk] at h
    split at h
    · cases h
    · next hp =>
      show dl (p :: (l ++ [(n, x)])) n = _
      simp only [dl]
      rw [if_neg hp, dl_snoc h]
namespace Od
variable {s : Od} {n : Int} {x : List UInt8}
theorem had_false (h : lk s.k (n % (s.m : Int)) = none) : s.had n = false := by unfold had; rw [h]; rfl
/-- it waits -/
theorem put_keep (hf : (n - (s.e : Int)) % (s.m : Int) < (s.W : Int)) (hl : lk s.k (n % (s.m : Int)) = none) (hne : n % (s.m : Int) ≠ (s.e : Int)) (he : lk s.k (s.e : Int) = none) :
    s.put n x = ⟨s.m, s.W, s.e, s.k ++ [(n % (s.m : Int), x)], s.r⟩ ∧ s.putN n x = 0 := by
  have h1 : s.far n = false := by unfold far; exact decide_eq_false (by omega)
  obtain ⟨e1, e2⟩ := put_new (x := x) h1 (had_false hl)
  have e3 : Od.adv ((s.add n x).k.length + 1) (s.add n x) = s.add n x := adv_none (by
    show lk (s.k ++ [(n % (s.m : Int), x)]) (s.e : Int) = none
    rw [lk_snoc_new hl, if_neg (fun h => hne h.symm)]
    exact he)
  rw [e1, e2, e3]
  exact ⟨rfl, by show ((s.r.length : Int) - (s.r.length : Int)) = 0; omega⟩
/-- the expected one: it becomes ready, and what is stored behind it -/
theorem put_next (h8 : 1 ≤ s.m) (hw : 1 ≤ s.W) (hee : s.e < s.m) (hn : n % (s.m : Int) = (s.e : Int)) (he : lk s.k (s.e : Int) = none) :
    s.put n x = Od.adv (s.k.length + 1) ⟨s.m, s.W, (s.e + 1) % s.m, s.k, s.r ++ [x]⟩ ∧ s.putN n x = ((Od.adv (s.k.length + 1) ⟨s.m, s.W, (s.e + 1) % s.m, s.k, s.r ++ [x]⟩).r.length : Int) - (s.r.length : Int) := by
  have h0 : (n - (s.e : Int)) % (s.m : Int) = 0 := by
    have h2 := Int.mul_ediv_add_emod n (s.m : Int)
    have h3 : n - (s.e : Int) = (s.m : Int) * (n / (s.m : Int)) := by omega
    rw [h3, Int.mul_emod_right]
  have h1 : s.far n = false := by unfold far; exact decide_eq_false (by omega)
  have hl : lk s.k (n % (s.m : Int)) = none := by rw [hn]; exact he
  obtain ⟨e1, e2⟩ := put_new (x := x) h1 (had_false hl)
  have e3 : lk (s.add n x).k ((s.add n x).e : Int) = some x := by
    show lk (s.k ++ [(n % (s.m : Int), x)]) (s.e : Int) = some x
    rw [hn, lk_snoc_new he, if_pos rfl]
  have e4 : (s.add n x).step x = ⟨s.m, s.W, (s.e + 1) % s.m, s.k, s.r ++ [x]⟩ := by
    show (⟨s.m, s.W, (s.e + 1) % s.m, dl (s.k ++ [(n % (s.m : Int), x)]) (s.e : Int), s.r ++ [x]⟩ : Od) = _
    rw [hn, dl_snoc he]
  have e5 : (s.add n x).k.length = s.k.length + 1 := by show (s.k ++ [_]).length = _; simp
  rw [e1, e2, e5, adv_some e3, e4]
  exact ⟨rfl, rfl⟩
/-- the expected one, nothing waits for it -/
theorem put_now (h8 : 1 ≤ s.m) (hw : 1 ≤ s.W) (hee : s.e < s.m) (hn : n % (s.m : Int) = (s.e : Int)) (he : lk s.k (s.e : Int) = none) (he' : lk s.k (((s.e + 1) % s.m : Nat) : Int) = none) :
    s.put n x = ⟨s.m, s.W, (s.e + 1) % s.m, s.k, s.r ++ [x]⟩ ∧ s.putN n x = 1 := by
  obtain ⟨e1, e2⟩ := put_next (x := x) h8 hw hee hn he
  rw [adv_none (s := ⟨s.m, s.W, (s.e + 1) % s.m, s.k, s.r ++ [x]⟩) he'] at e1 e2
  rw [e1, e2]
  exact ⟨rfl, by simp only [List.length_append, List.length_singleton]; omega⟩
theorem new_eq {m W : Nat} (h8 : 8 ≤ m) (h9 : m ≤ 32768) (h1 : 1 ≤ W) (hw : W * 8 ≤ m) : Od.new (m : Int) (W : Int) = ⟨m, W, 0, [], []⟩ := by
  have e1 : (min (max (m : Int) 8) 32768).toNat = m := by omega
  have e2 : (min (max (W : Int) 1) (min (max (m : Int) 8) 32768 / 8)).toNat = W := by omega
  unfold Od.new
  rw [e1, e2]
theorem dist_off {m st off : Nat} (ho : off < m) : ((((st + off) % m : Nat) : Int) - ((st % m : Nat) : Int)) % (m : Int) = (off : Int) := by
  rw [Int.natCast_emod, Int.natCast_emod, ← Int.sub_emod, show ((st + off : Nat) : Int) - (st : Int) = (off : Int) by omega]
  exact Int.emod_eq_of_lt (by omega) (by omega)
/-- a number off ahead of the expected one, on an order that holds nothing -/
theorem put_off {m W st off : Nat} {r : List (List UInt8)} (h8 : 8 ≤ m) (hw : 1 ≤ W) (ho : off < m) :
    (⟨m, W, st % m, [], r⟩ : Od).putN (((st + off) % m : Nat) : Int) x = (if W ≤ off then -1 else if off = 0 then 1 else 0) ∧ ((⟨m, W, st % m, [], r⟩ : Od).put (((st + off) % m : Nat) : Int) x).gap = (decide (0 < off) && decide (off < W)) := by
  have hd := dist_off (st := st) ho
  have hlt : (st + off) % m < m := Nat.mod_lt _ (by omega)
  have hst : st % m < m := Nat.mod_lt _ (by omega)
  have hq : ((((st + off) % m : Nat) : Int)) % (m : Int) = (((st + off) % m : Nat) : Int) := Int.emod_eq_of_lt (by omega) (by omega)
  by_cases h1 : W ≤ off
  · obtain ⟨e1, e2⟩ := put_far (s := ⟨m, W, st % m, [], r⟩) (n := (((st + off) % m : Nat) : Int)) (x := x) (by unfold far; rw [hd]; exact decide_eq_true (by show (W : Int) ≤ (off : Int); omega))
    rw [e1, e2, if_pos h1, decide_eq_false (show ¬ off < W by omega), Bool.and_false]
    exact ⟨rfl, rfl⟩
  · rw [if_neg h1]
    by_cases h0 : off = 0
    · subst h0
      obtain ⟨e1, e2⟩ := put_now (s := ⟨m, W, st % m, [], r⟩) (n := (((st + 0) % m : Nat) : Int)) (x := x) (by show 1 ≤ m; omega) hw hst hq rfl rfl
      rw [e1, e2, if_pos rfl]
      exact ⟨rfl, rfl⟩
    · have hne : ((((st + off) % m : Nat) : Int)) ≠ ((st % m : Nat) : Int) := fun e => by
        rw [e, Int.sub_self] at hd
        have : (0 : Int) % (m : Int) = 0 := Int.zero_emod _
        omega
      obtain ⟨e1, e2⟩ := put_keep (s := ⟨m, W, st % m, [], r⟩) (n := (((st + off) % m : Nat) : Int)) (x := x) (by rw [hd]; show (off : Int) < (W : Int); omega) rfl (by show ((((st + off) % m : Nat) : Int)) % (m : Int) ≠ _; rw [hq]; exact hne) rfl
      rw [e1, e2, if_neg h0, decide_eq_true (show 0 < off by omega), decide_eq_true (show off < W by omega)]
      exact ⟨rfl, rfl⟩
theorem take_cons {m W e : Nat} {k : List (Int × List UInt8)} {r : List (List UInt8)} : (⟨m, W, e, k, x :: r⟩ : Od).take = ⟨m, W, e, k, r⟩ ∧ (⟨m, W, e, k, x :: r⟩ : Od).takeX = x ∧ (⟨m, W, e, k, x :: r⟩ : Od).takeB = true := ⟨rfl, rfl, rfl⟩
theorem take_nil {m W e : Nat} {k : List (Int × List UInt8)} : (⟨m, W, e, k, []⟩ : Od).take = ⟨m, W, e, k, []⟩ ∧ (⟨m, W, e, k, []⟩ : Od).takeX = [] ∧ (⟨m, W, e, k, []⟩ : Od).takeB = false := ⟨rfl, rfl, rfl⟩
end Od
/-- the messages i below n, each told by f -/
def msgs (f : Nat → List UInt8) (n : Nat) : List (List UInt8) := (List.range n).map f
theorem msgs_next (f : Nat → List UInt8) (n : Nat) : msgs f n ++ [f n] = msgs f (n + 1) := by unfold msgs; rw [List.range_succ, List.map_append, List.map_singleton]
theorem msgs_drop (f : Nat → List UInt8) {n i : Nat} (h : i < n) : (msgs f n).drop i = f i :: (msgs f n).drop (i + 1) := by
  unfold msgs
  have hl : i < ((List.range n).map f).length := by simpa using h
  rw [List.drop_eq_getElem_cons hl]
  congr 1
  simp
theorem msgs_end (f : Nat → List UInt8) (n : Nat) : (msgs f n).drop n = [] := by unfold msgs; simp
theorem msgs_len (f : Nat → List UInt8) (n : Nat) : (msgs f n).length = n := by unfold msgs; simp
end Go.Proofs.Ytgkdabllaankcaa
/- One end of a session, plainly: what comes as it was written; a message that is the next one; nothing that is acknowledged. No condition. -/
namespace Go.Proofs.Ytgkdabllaankcaa
set_option linter.unusedVariables false
namespace Aq
theorem tag_of_hd {t : Nat} (ht : t < 65536) (l : List UInt8) : Aq.tagOf (Aq.hd t ++ l) = t := by
  unfold Aq.tagOf Aq.hd
  show (UInt8.ofNat (t / 256)).toNat * 256 + (UInt8.ofNat t).toNat = t
  rw [UInt8.toNat_ofNat', UInt8.toNat_ofNat']
  omega
/-- what comes as it was written -/
theorem input_enc {s : Aq} {t : Nat} (ht : t < 65536) {k ns nr : Int} {p : Bool} {x : List UInt8} (h : right k ns nr s.m = true) : s.input (Aq.hd t ++ enc k ns nr p s.m ++ x) = s.proc t k ns nr p x := by
  have e : (Aq.hd t ++ enc k ns nr p s.m ++ x).drop 2 = enc k ns nr p s.m ++ x := rfl
  have hl : ¬ (Aq.hd t ++ enc k ns nr p s.m ++ x).length < 2 := by rw [List.length_append, List.length_append]; show ¬ 2 + _ + _ < 2; omega
  have hd : (Aq.hd t ++ enc k ns nr p s.m ++ x).drop (2 + ((enc k ns nr p s.m).length : Int).toNat) = x := by
    rw [Int.toNat_natCast, show 2 + (enc k ns nr p s.m).length = (Aq.hd t ++ enc k ns nr p s.m).length by rw [List.length_append]; rfl, List.drop_left]
  have ht' : Aq.tagOf (Aq.hd t ++ enc k ns nr p s.m ++ x) = t := by rw [List.append_assoc]; exact tag_of_hd ht _
  unfold Aq.input
  rw [e, rd_enc k ns nr p s.m x h, if_neg hl, if_neg (by simp), ht']
  dsimp only
  rw [hd]
theorem right_I {m : Nat} (hm : m = 128 ∨ m = 32768) {ns nr : Nat} (h1 : ns < m) (h2 : nr < m) : right 0 (ns : Int) (nr : Int) (m : Int) = true := by
  unfold right isMod inR
  rcases hm with rfl | rfl <;> simp <;> omega
theorem right_RR {m : Nat} (hm : m = 128 ∨ m = 32768) {k : Int} (hk : k = 1 ∨ k = 2) {nr : Nat} (h2 : nr < m) : right k 0 (nr : Int) (m : Int) = true := by
  unfold right isMod inR
  rcases hm with rfl | rfl <;> rcases hk with rfl | rfl <;> simp <;> omega
theorem right_bare {m : Nat} (hm : m = 128 ∨ m = 32768) {k : Int} (hk : 3 ≤ k ∧ k ≤ 7) : right k 0 0 (m : Int) = true := by
  unfold right isMod
  rw [if_neg (by omega), if_neg (by omega)]
  rcases hm with rfl | rfl <;> simp <;> exact hk
/-- nothing more is acknowledged -/
theorem acks_none {s : Aq} (hf : s.lg.f < s.lg.m) : s.acks (s.lg.f : Int) = s := by
  have hds : s.lg.ds s.lg.f = 0 := by
    unfold Lg.ds
    rw [show s.lg.f + s.lg.m - s.lg.f = s.lg.m by omega, Nat.mod_self]
  have hh : s.lg.hit (s.lg.f : Int) = true := by rw [Lg.hit_nat hf, hds]; simp
  have hN : s.lg.ackN (s.lg.f : Int) = 0 := by unfold Lg.ackN; rw [hh, Int.toNat_natCast, hds]; rfl
  have ha : s.lg.ack (s.lg.f : Int) = s.lg := by
    unfold Lg.ack
    rw [hh, Int.toNat_natCast, hds]
    rfl
  unfold Aq.acks
  rw [hN, if_pos rfl, ha]
  rfl
/-- a message that is the next one, where nothing waits for it -/
theorem take_next {s : Aq} (ok : s.Ok) (hk : s.od.k = []) (x : List UInt8) (p : Bool) : s.take (s.od.e : Int) x p = ({ s with od := ⟨s.od.m, s.od.W, (s.od.e + 1) % s.od.m, [], s.od.r ++ [x]⟩, rj := false } : Aq).send 1 p := by
  have he := ok.od.e9
  have h8 := ok.od.m8
  obtain ⟨e1, e2⟩ := Od.put_now (s := s.od) (x := x) (n := (s.od.e : Int)) (by omega) ok.od.w1 he (Int.emod_eq_of_lt (by omega) (by omega)) (by rw [hk]; rfl) (by rw [hk]; rfl)
  rw [hk] at e1
  have e3 : s.recvd (s.od.e : Int) x = { s with od := ⟨s.od.m, s.od.W, (s.od.e + 1) % s.od.m, [], s.od.r ++ [x]⟩, rj := false } := by
    unfold Aq.recvd
    rw [e1, e2]
    rfl
  have hg : (({ s with od := ⟨s.od.m, s.od.W, (s.od.e + 1) % s.od.m, [], s.od.r ++ [x]⟩, rj := false } : Aq)).od.gap = false := rfl
  unfold Aq.take Aq.answer
  rw [e3, hg, if_neg (by simp)]
theorem pump_none {s : Aq} (h : s.lg.n = s.lg.l.length) : s.pump = s := Aq.pump_stop (by unfold Lg.stop; rw [h]; simp)
end Aq
end Go.Proofs.Ytgkdabllaankcaa
/- Calls of one end of a pair: Send, Counts, State, Input, Again, Pass, Close. Condition: room. -/
namespace Go.Proofs.Ytgkdabllaankcaa
open Go.RowKit
set_option linter.unusedVariables false

theorem Pr.setA_twice (p : Pr) (i : Bool) (s s' : Aq) : (p.setA i s).setA i s' = p.setA i s' := by unfold Pr.setA; rw [bset_twice]
theorem Pr.setA_self (p : Pr) (i : Bool) : p.setA i (p.a i) = p := by unfold Pr.setA; rw [bset_self]
theorem Pr.setA_a (p : Pr) (i : Bool) (s : Aq) : (p.setA i s).a i = s := bset_same
/-- what is sent: the first k -/
def wins (k : Nat) : List (List UInt8) := (List.range k).map fun i => [UInt8.ofNat i]
theorem wins_len (k : Nat) : (wins k).length = k := by simp [wins]
theorem wins_next (k : Nat) : wins (k + 1) = wins k ++ [[UInt8.ofNat k]] := by unfold wins; rw [List.range_succ, List.map_append]; rfl
theorem win_shape {m : Int} {W Q : Nat} (hm : m = 128 ∨ m = 32768) (h1 : 1 ≤ W) (h2 : W ≤ 16) (h3 : Q ≤ 30) : (upS (shapeC m W Q)).lg.W = W ∧ (upS (shapeC m W Q)).lg.Q = Q ∧ (upS (shapeC m W Q)).sz = 50 := by
  rcases hm with rfl | rfl
  · refine ⟨?_, ?_, rfl⟩
    · show (min (max (W : Int) 1) (min (max (128 : Int) 8) 32768 / 8)).toNat = W
      omega
    · show (min (max (Q : Int) 0) 1000).toNat = Q
      omega
  · refine ⟨?_, ?_, rfl⟩
    · show (min (max (W : Int) 1) (min (max (32768 : Int) 8) 32768 / 8)).toNat = W
      omega
    · show (min (max (Q : Int) 0) 1000).toNat = Q
      omega
/-- the k-th message is taken, or refused -/
theorem win_step {s : Aq} (h : s.Rest) (hQ : 1 ≤ s.lg.Q) (hsz : 1 ≤ s.sz) (k : Nat) : (sentS s (wins (min k (s.lg.W + s.lg.Q)))).give [UInt8.ofNat k] = sentS s (wins (min (k + 1) (s.lg.W + s.lg.Q))) ∧ (sentS s (wins (min k (s.lg.W + s.lg.Q)))).giveE [UInt8.ofNat k] = if k < s.lg.W + s.lg.Q then 0 else 6 := by
  by_cases hk : k < s.lg.W + s.lg.Q
  · rw [show min k (s.lg.W + s.lg.Q) = k by omega, show min (k + 1) (s.lg.W + s.lg.Q) = k + 1 by omega, wins_next, if_pos hk]
    exact sentS_give h hQ (by rw [wins_len]; exact hk) hsz
  · rw [show min k (s.lg.W + s.lg.Q) = s.lg.W + s.lg.Q by omega, show min (k + 1) (s.lg.W + s.lg.Q) = s.lg.W + s.lg.Q by omega, if_neg hk]
    exact sentS_refuse h (by rw [wins_len]; exact Nat.le_refl _) hsz
theorem sentS_os (s : Aq) (L : List (List UInt8)) : (sentS s L).os.length = min s.lg.W L.length := by
  show (outsFrom _ _ _ _ _).length = _
  rw [outsFrom_len, List.length_take]
theorem laid_byte (w : World) {k : Nat} (hk : k < 256) : laid w [UInt8.ofNat k] = w.alloc (.cells #[.int .u8 (k : Int)] 5) := by
  unfold laid bv
  show w.alloc (.cells #[.int .u8 (((UInt8.ofNat k).toNat : Nat) : Int)] 5) = _
  rw [UInt8.toNat_ofNat', show k % 2 ^ 8 = k by omega]
section
variable {w v v' : World} {H G : Nat → Prop} {P : Nat} {b : Bool → Nat} {p : Pr}
/-- new memory of the law's own -/
theorem PrOne.grow (h : PrOne H w v P b p) (hb : Below v.heap.size v v') : PrOne (fun k => H k ∨ (v.heap.size ≤ k ∧ k < v'.heap.size)) w v' P b p := by
  obtain ⟨t, h1, h2, h3, h4⟩ := h
  refine ⟨t, h1.only (G := fun _ => False) (Only.of_below _ hb) (fun _ _ h => h), fun k hk => ⟨(h2 k hk).1, fun e => e.elim (h2 k hk).2 (fun e => ?_)⟩, h3.trans (hb.mono h3.size), fun k hk => hk.elim (fun e => Nat.lt_of_lt_of_le (h4 k e) hb.size) (fun e => e.2)⟩
  have := h1.lt k hk
  omega
theorem PrOne.send (h : PrOne H w v P b p) (i : Bool) (hf : (p.a i).os.length + ((p.a i).lg.W - (p.a i).lg.n) ≤ 1000000) (hsn : (p.a i).sn ≤ 1000000000000) (X : Option Addr) (e : Nat) (x : List UInt8) (hr : Rd v X x) (hx : x.length ≤ 1048576) :
    Calls Try.prog 11 #[.pointer (some ⟨b i, 0, none⟩), .slice X x.length e] v fun r v' => r = .returned (.int .i64 ((p.a i).giveE x)) ∧ PrOne H w v' P b (p.setA i ((p.a i).give x)) ∧ Kept H v v' ∧ SameP P v v' :=
  h.act i (fun H' o _ => o.call fun F hp _ => aqGive_calls hp hf hsn X e x hr hx)
theorem PrOne.input (h : PrOne H w v P b p) (i : Bool) (hr : (p.a i).Room) (X : Option Addr) (e : Nat) (x : List UInt8) (hrd : Rd v X x) (hx : x.length ≤ 90000) (hxe : x.length ≤ e) (he : e ≤ 9223372036854775807) (hX : ∀ k, blk X = some k → H k) :
    Calls Try.prog 21 #[.pointer (some ⟨b i, 0, none⟩), .slice X x.length e] v fun r v' => r = .returned (.tuple #[]) ∧ PrOne H w v' P b (p.setA i ((p.a i).input x)) ∧ Kept H v v' ∧ SameP P v v' :=
  h.act i (fun H' o hH => o.input' hr X e x hrd hx hxe he (fun k hk => hH k (hX k hk)))
theorem PrOne.again (h : PrOne H w v P b p) (i : Bool) (hf : (p.a i).os.length + (p.a i).lg.n ≤ 1000000) :
    Calls Try.prog 14 #[.pointer (some ⟨b i, 0, none⟩)] v fun r v' => r = .returned (.tuple #[]) ∧ PrOne H w v' P b (p.setA i (p.a i).again) ∧ Kept H v v' ∧ SameP P v v' :=
  h.act i (fun H' o _ => o.call fun F hp _ => aqAgain_calls hp hf)
theorem PrOne.state (h : PrOne H w v P b p) (i : Bool) : Calls Try.prog 10 #[.pointer (some ⟨b i, 0, none⟩)] v fun e v' => e = .returned (.int .i64 ((p.a i).st : Int)) ∧ v' = v := by
  obtain ⟨t, h⟩ := h
  exact aqState_calls (h.1.ends i)
theorem PrOne.counts (h : PrOne H w v P b p) (i : Bool) : Calls Try.prog 17 #[.pointer (some ⟨b i, 0, none⟩)] v fun e v' => e = .returned (.tuple #[.int .i64 ((p.a i).sn : Int), .int .i64 ((p.a i).ak : Int), .int .i64 ((p.a i).lo : Int)]) ∧ ∃ q, v' = v.drewN q := by
  obtain ⟨t, h⟩ := h
  exact aqCounts_calls (h.1.ends i)
theorem PrOne.pass (h : PrOne H w v P b p) (i : Bool) (hf : (p.a i).Fits) (n : Int) :
    Calls Try.prog 13 #[.pointer (some ⟨b i, 0, none⟩), .int .i64 n] v fun r v' => r = .returned (.tuple #[]) ∧ PrOne H w v' P b (p.setA i ((p.a i).pass n)) ∧ Kept H v v' ∧ SameP P v v' :=
  h.act i (fun H' o _ => o.call fun F hp _ => aqPass_calls hp hf n)
theorem PrOne.close (h : PrOne H w v P b p) (i : Bool) (hf : (p.a i).os.length ≤ 1000000) (hlo : (p.a i).lo ≤ 1000000000000) :
    Calls Try.prog 19 #[.pointer (some ⟨b i, 0, none⟩)] v fun r v' => r = .returned (.int .i64 (p.a i).closeE) ∧ PrOne H w v' P b (p.setA i (p.a i).close) ∧ Kept H v v' ∧ SameP P v v' :=
  h.act i (fun H' o _ => o.call fun F hp _ => aqClose_calls hp hf hlo)
end
end Go.Proofs.Ytgkdabllaankcaa

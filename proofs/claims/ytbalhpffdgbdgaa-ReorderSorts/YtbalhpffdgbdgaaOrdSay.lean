/- An order, plainly: what Put makes of the expected number, of one that waits, of one that is there or too far. No condition. -/
import Derived.Test.YtbalhpffdgbdgaaOrdPlain
namespace Go.Proofs.Ytbalhpffdgbdgaa
set_option linter.unusedVariables false
theorem mod_int {A : Int} {a M r : Nat} (h : A = (a : Int)) (hr : a % M = r) : A.tmod (M : Int) = (r : Int) ∧ A % (M : Int) = (r : Int) := by
  subst h hr
  rw [Int.tmod_eq_emod_of_nonneg (by omega), Int.natCast_emod]
  exact ⟨rfl, rfl⟩
theorem lk_none_of {α : Type} {l : List (Int × α)} {n : Int} (h : ∀ p ∈ l, p.1 ≠ n) : lk l n = none := fi_eq_len fun j q hj => h q (List.mem_of_getElem? hj)
theorem lk_some_of {α : Type} {n : Int} : ∀ {l : List (Int × α)} {p : Int × α}, p ∈ l → p.1 = n → ∃ x, lk l n = some x
  | [], _, h, _ => by cases h
  | q :: l, p, h, hn => by
    simp only [lk]
    split
    · exact ⟨_, rfl⟩
    · next hq =>
      rcases List.mem_cons.1 h with rfl | h
      · exact absurd hn hq
      · exact lk_some_of h hn
theorem dl_snoc {α : Type} {n : Int} {x : α} : ∀ {l : List (Int × α)}, lk l n = none → dl (l ++ [(n, x)]) n = l
  | [], _ => by simp [dl]
  | p :: l, h => by
    simp only [lk] at h
    split at h
    · cases h
    · next hp =>
      show dl (p :: (l ++ [(n, x)])) n = _
      simp only [dl]
      rw [if_neg hp, dl_snoc h]
namespace Od
variable {s : Od} {n : Int} {x : List UInt8}
theorem had_false (h : lk s.k (n % (s.m : Int)) = none) : s.had n = false := by unfold had; rw [h]; rfl
/-- it waits -/
theorem put_keep (hf : (n - (s.e : Int)) % (s.m : Int) < (s.W : Int)) (hl : lk s.k (n % (s.m : Int)) = none) (hne : n % (s.m : Int) ≠ (s.e : Int)) (he : lk s.k (s.e : Int) = none) :
    s.put n x = ⟨s.m, s.W, s.e, s.k ++ [(n % (s.m : Int), x)], s.r⟩ ∧ s.putN n x = 0 := by
  have h1 : s.far n = false := by unfold far; exact decide_eq_false (by omega)
  obtain ⟨e1, e2⟩ := put_new (x := x) h1 (had_false hl)
  have e3 : Od.adv ((s.add n x).k.length + 1) (s.add n x) = s.add n x := adv_none (by
    show lk (s.k ++ [(n % (s.m : Int), x)]) (s.e : Int) = none
    rw [lk_snoc_new hl, if_neg (fun h => hne h.symm)]
    exact he)
  rw [e1, e2, e3]
  exact ⟨rfl, by show ((s.r.length : Int) - (s.r.length : Int)) = 0; omega⟩
/-- the expected one: it becomes ready, and what is stored behind it -/
theorem put_next (h8 : 1 ≤ s.m) (hw : 1 ≤ s.W) (hee : s.e < s.m) (hn : n % (s.m : Int) = (s.e : Int)) (he : lk s.k (s.e : Int) = none) :
    s.put n x = Od.adv (s.k.length + 1) ⟨s.m, s.W, (s.e + 1) % s.m, s.k, s.r ++ [x]⟩ ∧ s.putN n x = ((Od.adv (s.k.length + 1) ⟨s.m, s.W, (s.e + 1) % s.m, s.k, s.r ++ [x]⟩).r.length : Int) - (s.r.length : Int) := by
  have h0 : (n - (s.e : Int)) % (s.m : Int) = 0 := by
    have h2 := Int.mul_ediv_add_emod n (s.m : Int)
    have h3 : n - (s.e : Int) = (s.m : Int) * (n / (s.m : Int)) := by omega
    rw [h3, Int.mul_emod_right]
  have h1 : s.far n = false := by unfold far; exact decide_eq_false (by omega)
  have hl : lk s.k (n % (s.m : Int)) = none := by rw [hn]; exact he
  obtain ⟨e1, e2⟩ := put_new (x := x) h1 (had_false hl)
  have e3 : lk (s.add n x).k ((s.add n x).e : Int) = some x := by
    show lk (s.k ++ [(n % (s.m : Int), x)]) (s.e : Int) = some x
    rw [hn, lk_snoc_new he, if_pos rfl]
  have e4 : (s.add n x).step x = ⟨s.m, s.W, (s.e + 1) % s.m, s.k, s.r ++ [x]⟩ := by
    show (⟨s.m, s.W, (s.e + 1) % s.m, dl (s.k ++ [(n % (s.m : Int), x)]) (s.e : Int), s.r ++ [x]⟩ : Od) = _
    rw [hn, dl_snoc he]
  have e5 : (s.add n x).k.length = s.k.length + 1 := by show (s.k ++ [_]).length = _; simp
  rw [e1, e2, e5, adv_some e3, e4]
  exact ⟨rfl, rfl⟩
/-- the expected one, nothing waits for it -/
theorem put_now (h8 : 1 ≤ s.m) (hw : 1 ≤ s.W) (hee : s.e < s.m) (hn : n % (s.m : Int) = (s.e : Int)) (he : lk s.k (s.e : Int) = none) (he' : lk s.k (((s.e + 1) % s.m : Nat) : Int) = none) :
    s.put n x = ⟨s.m, s.W, (s.e + 1) % s.m, s.k, s.r ++ [x]⟩ ∧ s.putN n x = 1 := by
  obtain ⟨e1, e2⟩ := put_next (x := x) h8 hw hee hn he
  rw [adv_none (s := ⟨s.m, s.W, (s.e + 1) % s.m, s.k, s.r ++ [x]⟩) he'] at e1 e2
  rw [e1, e2]
  exact ⟨rfl, by simp only [List.length_append, List.length_singleton]; omega⟩
theorem new_eq {m W : Nat} (h8 : 8 ≤ m) (h9 : m ≤ 32768) (h1 : 1 ≤ W) (hw : W * 8 ≤ m) : Od.new (m : Int) (W : Int) = ⟨m, W, 0, [], []⟩ := by
  have e1 : (min (max (m : Int) 8) 32768).toNat = m := by omega
  have e2 : (min (max (W : Int) 1) (min (max (m : Int) 8) 32768 / 8)).toNat = W := by omega
  unfold Od.new
  rw [e1, e2]
theorem dist_off {m st off : Nat} (ho : off < m) : ((((st + off) % m : Nat) : Int) - ((st % m : Nat) : Int)) % (m : Int) = (off : Int) := by
  rw [Int.natCast_emod, Int.natCast_emod, ← Int.sub_emod, show ((st + off : Nat) : Int) - (st : Int) = (off : Int) by omega]
  exact Int.emod_eq_of_lt (by omega) (by omega)
/-- a number off ahead of the expected one, on an order that holds nothing -/
theorem put_off {m W st off : Nat} {r : List (List UInt8)} (h8 : 8 ≤ m) (hw : 1 ≤ W) (ho : off < m) :
    (⟨m, W, st % m, [], r⟩ : Od).putN (((st + off) % m : Nat) : Int) x = (if W ≤ off then -1 else if off = 0 then 1 else 0) ∧ ((⟨m, W, st % m, [], r⟩ : Od).put (((st + off) % m : Nat) : Int) x).gap = (decide (0 < off) && decide (off < W)) := by
  have hd := dist_off (st := st) ho
  have hlt : (st + off) % m < m := Nat.mod_lt _ (by omega)
  have hst : st % m < m := Nat.mod_lt _ (by omega)
  have hq : ((((st + off) % m : Nat) : Int)) % (m : Int) = (((st + off) % m : Nat) : Int) := Int.emod_eq_of_lt (by omega) (by omega)
  by_cases h1 : W ≤ off
  · obtain ⟨e1, e2⟩ := put_far (s := ⟨m, W, st % m, [], r⟩) (n := (((st + off) % m : Nat) : Int)) (x := x) (by unfold far; rw [hd]; exact decide_eq_true (by show (W : Int) ≤ (off : Int); omega))
    rw [e1, e2, if_pos h1, decide_eq_false (show ¬ off < W by omega), Bool.and_false]
    exact ⟨rfl, rfl⟩
  · rw [if_neg h1]
    by_cases h0 : off = 0
    · subst h0
      obtain ⟨e1, e2⟩ := put_now (s := ⟨m, W, st % m, [], r⟩) (n := (((st + 0) % m : Nat) : Int)) (x := x) (by show 1 ≤ m; omega) hw hst hq rfl rfl
      rw [e1, e2, if_pos rfl]
      exact ⟨rfl, rfl⟩
    · have hne : ((((st + off) % m : Nat) : Int)) ≠ ((st % m : Nat) : Int) := fun e => by
        rw [e, Int.sub_self] at hd
        have : (0 : Int) % (m : Int) = 0 := Int.zero_emod _
        omega
      obtain ⟨e1, e2⟩ := put_keep (s := ⟨m, W, st % m, [], r⟩) (n := (((st + off) % m : Nat) : Int)) (x := x) (by rw [hd]; show (off : Int) < (W : Int); omega) rfl (by show ((((st + off) % m : Nat) : Int)) % (m : Int) ≠ _; rw [hq]; exact hne) rfl
      rw [e1, e2, if_neg h0, decide_eq_true (show 0 < off by omega), decide_eq_true (show off < W by omega)]
      exact ⟨rfl, rfl⟩
theorem take_cons {m W e : Nat} {k : List (Int × List UInt8)} {r : List (List UInt8)} : (⟨m, W, e, k, x :: r⟩ : Od).take = ⟨m, W, e, k, r⟩ ∧ (⟨m, W, e, k, x :: r⟩ : Od).takeX = x ∧ (⟨m, W, e, k, x :: r⟩ : Od).takeB = true := ⟨rfl, rfl, rfl⟩
theorem take_nil {m W e : Nat} {k : List (Int × List UInt8)} : (⟨m, W, e, k, []⟩ : Od).take = ⟨m, W, e, k, []⟩ ∧ (⟨m, W, e, k, []⟩ : Od).takeX = [] ∧ (⟨m, W, e, k, []⟩ : Od).takeB = false := ⟨rfl, rfl, rfl⟩
end Od
/-- the messages i below n, each told by f -/
def msgs (f : Nat → List UInt8) (n : Nat) : List (List UInt8) := (List.range n).map f
theorem msgs_next (f : Nat → List UInt8) (n : Nat) : msgs f n ++ [f n] = msgs f (n + 1) := by unfold msgs; rw [List.range_succ, List.map_append, List.map_singleton]
theorem msgs_drop (f : Nat → List UInt8) {n i : Nat} (h : i < n) : (msgs f n).drop i = f i :: (msgs f n).drop (i + 1) := by
  unfold msgs
  have hl : i < ((List.range n).map f).length := by simpa using h
  rw [List.drop_eq_getElem_cons hl]
  congr 1
  simp
theorem msgs_end (f : Nat → List UInt8) (n : Nat) : (msgs f n).drop n = [] := by unfold msgs; simp
theorem msgs_len (f : Nat → List UInt8) (n : Nat) : (msgs f n).length = n := by unfold msgs; simp
end Go.Proofs.Ytbalhpffdgbdgaa

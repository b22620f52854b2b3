/- An order of messages, plainly: what each call makes of it and answers; rows of pairs by their numbers. No condition. -/
namespace Go.Proofs.Ytbalhpffdgbdgaa
section
variable {α : Type}
/-- what stands at the number n -/
def lk : List (Int × α) → Int → Option α
  | [], _ => none
  | p :: l, n => if p.1 = n then some p.2 else lk l n
/-- without the number n -/
def dl : List (Int × α) → Int → List (Int × α)
  | [], _ => []
  | p :: l, n => if p.1 = n then l else p :: dl l n
/-- the place of the number n -/
def fi : List (Int × α) → Int → Nat
  | [], _ => 0
  | p :: l, n => if p.1 = n then 0 else fi l n + 1
/-- no number stands twice -/
def Ds : List (Int × α) → Prop
  | [] => True
  | p :: l => lk l p.1 = none ∧ Ds l
variable {l : List (Int × α)} {n k : Int} {x : α}
theorem lk_snoc : ∀ {l : List (Int × α)}, lk (l ++ [(n, x)]) k = (lk l k).or (if n = k then some x else none)
  | [] => by simp [lk]
  | p :: l => by
    simp only [List.cons_append, lk]
    split
    · rfl
    · exact lk_snoc
theorem lk_snoc_new (h : lk l n = none) : lk (l ++ [(n, x)]) k = if k = n then some x else lk l k := by
  rw [lk_snoc]
  by_cases e : k = n
  · subst e; rw [h]; simp
  · rw [if_neg e, if_neg (fun h => e h.symm)]; cases lk l k <;> rfl
theorem ds_snoc : ∀ {l : List (Int × α)}, Ds l → lk l n = none → Ds (l ++ [(n, x)])
  | [], _, _ => ⟨rfl, trivial⟩
  | p :: l, h, hn => by
    simp only [lk] at hn
    split at hn
    · cases hn
    · next hp =>
      refine ⟨?_, ds_snoc h.2 hn⟩
      show lk (l ++ [(n, x)]) p.1 = none
      rw [lk_snoc, h.1, if_neg (fun e => hp e.symm)]
      rfl
theorem lk_dl_other (hne : k ≠ n) : ∀ {l : List (Int × α)}, lk (dl l n) k = lk l k
  | [] => rfl
  | p :: l => by
    simp only [dl]
    by_cases h1 : p.1 = n
    · rw [if_pos h1]
      simp only [lk]
      rw [if_neg (fun e => hne (by omega))]
    · rw [if_neg h1]
      simp only [lk]
      split
      · rfl
      · exact lk_dl_other hne
theorem lk_dl_same : ∀ {l : List (Int × α)}, Ds l → lk (dl l n) n = none
  | [], _ => rfl
  | p :: l, h => by
    simp only [dl]
    by_cases h1 : p.1 = n
    · rw [if_pos h1, ← h1]; exact h.1
    · rw [if_neg h1]
      simp only [lk]
      rw [if_neg h1]
      exact lk_dl_same h.2
theorem ds_dl : ∀ {l : List (Int × α)}, Ds l → Ds (dl l n)
  | [], _ => trivial
  | p :: l, h => by
    simp only [dl]
    by_cases h1 : p.1 = n
    · rw [if_pos h1]; exact h.2
    · rw [if_neg h1]
      exact ⟨by rw [lk_dl_other h1]; exact h.1, ds_dl h.2⟩
theorem lk_mem : ∀ {l : List (Int × α)}, lk l n = some x → (n, x) ∈ l
  | [], h => by cases h
  | p :: l, h => by
    simp only [lk] at h
    split at h
    · next h1 =>
      injection h with h
      subst h1 h
      exact List.mem_cons_self ..
    · exact List.mem_cons_of_mem _ (lk_mem h)
theorem mem_dl {p : Int × α} : ∀ {l : List (Int × α)}, p ∈ dl l n → p ∈ l
  | [], h => h
  | q :: l, h => by
    simp only [dl] at h
    split at h
    · exact List.mem_cons_of_mem _ h
    · rcases List.mem_cons.1 h with rfl | h
      · exact List.mem_cons_self ..
      · exact List.mem_cons_of_mem _ (mem_dl h)
theorem dl_len_some : ∀ {l : List (Int × α)}, lk l n = some x → (dl l n).length + 1 = l.length
  | [], h => by cases h
  | p :: l, h => by
    simp only [lk] at h
    simp only [dl]
    split at h
    · next h1 => rw [if_pos h1]; rfl
    · next h1 =>
      rw [if_neg h1, List.length_cons, List.length_cons, dl_len_some h]
theorem dl_none : ∀ {l : List (Int × α)}, lk l n = none → dl l n = l
  | [], _ => rfl
  | p :: l, h => by
    simp only [lk] at h
    simp only [dl]
    split at h
    · cases h
    · next h1 => rw [if_neg h1, dl_none h]
/-- the place: what stands there, what stands ahead of it, what is left without it -/
theorem fi_lt : ∀ {l : List (Int × α)}, lk l n = some x → fi l n < l.length
  | [], h => by cases h
  | p :: l, h => by
    simp only [lk] at h
    simp only [fi]
    split at h
    · next h1 => rw [if_pos h1]; simp
    · next h1 => rw [if_neg h1]; have := fi_lt h; simp; omega
theorem fi_none : ∀ {l : List (Int × α)}, lk l n = none → fi l n = l.length
  | [], _ => rfl
  | p :: l, h => by
    simp only [lk] at h
    simp only [fi]
    split at h
    · cases h
    · next h1 => rw [if_neg h1, fi_none h]; rfl
theorem fi_get : ∀ {l : List (Int × α)}, lk l n = some x → l[fi l n]? = some (n, x)
  | [], h => by cases h
  | p :: l, h => by
    simp only [lk] at h
    simp only [fi]
    split at h
    · next h1 =>
      injection h with h
      subst h1 h
      rw [if_pos rfl]; rfl
    · next h1 => rw [if_neg h1]; simpa using fi_get h
theorem fi_ahead : ∀ {l : List (Int × α)} {i : Nat} {p : Int × α}, i < fi l n → l[i]? = some p → p.1 ≠ n
  | [], i, p, _, h => by simp at h
  | q :: l, i, p, h, hp => by
    simp only [fi] at h
    split at h
    · omega
    · next h1 =>
      rcases i with _ | i
      · simp at hp; subst hp; exact h1
      · exact fi_ahead (l := l) (i := i) (by omega) (by simpa using hp)
theorem fi_eq : ∀ {l : List (Int × α)} {i : Nat} {p : Int × α}, (∀ (j : Nat) (q : Int × α), j < i → l[j]? = some q → q.1 ≠ n) → l[i]? = some p → p.1 = n → fi l n = i
  | [], i, p, _, h, _ => by simp at h
  | q :: l, i, p, h, hp, hn => by
    simp only [fi]
    rcases i with _ | i
    · simp at hp; subst hp; rw [if_pos hn]
    · rw [if_neg (h 0 q (by omega) rfl), fi_eq (l := l) (i := i) (fun j q' hj hq => h (j + 1) q' (by omega) (by simpa using hq)) (by simpa using hp) hn]
theorem fi_eq_len : ∀ {l : List (Int × α)}, (∀ (j : Nat) (q : Int × α), l[j]? = some q → q.1 ≠ n) → lk l n = none
  | [], _ => rfl
  | p :: l, h => by
    simp only [lk]
    rw [if_neg (h 0 p rfl)]
    exact fi_eq_len (fun j q hj => h (j + 1) q (by simpa using hj))
theorem dl_cut : ∀ {l : List (Int × α)}, lk l n = some x → dl l n = l.take (fi l n) ++ l.drop (fi l n + 1)
  | [], h => by cases h
  | p :: l, h => by
    simp only [lk] at h
    simp only [dl, fi]
    split at h
    · next h1 => rw [if_pos h1, if_pos h1]; simp
    · next h1 => rw [if_neg h1, if_neg h1, dl_cut h]; simp
end
/-- An order: its modulus, its window, the number that is expected, what is kept, what is ready. -/
structure Od where
  m : Nat
  W : Nat
  e : Nat
  k : List (Int × List UInt8)
  r : List (List UInt8)
namespace Od
structure Ok (s : Od) : Prop where
  m8 : 8 ≤ s.m
  m9 : s.m ≤ 32768
  w1 : 1 ≤ s.W
  w8 : s.W * 8 ≤ s.m
  e9 : s.e < s.m
  ds : Ds s.k
  key : ∀ p ∈ s.k, 0 ≤ p.1 ∧ p.1 < (s.m : Int) ∧ p.2.length ≤ 1048576
  small : ∀ x ∈ s.r, x.length ≤ 1048576
def new (m W : Int) : Od := ⟨(min (max m 8) 32768).toNat, (min (max W 1) (min (max m 8) 32768 / 8)).toNat, 0, [], []⟩
theorem new_ok (m W : Int) : (new m W).Ok := by
  refine ⟨?_, ?_, ?_, ?_, ?_, trivial, fun p hp => (List.not_mem_nil hp).elim, fun p hp => (List.not_mem_nil hp).elim⟩ <;> simp only [new]
  all_goals omega
theorem new_m (m W : Int) : min (max m 8) 32768 = ((new m W).m : Int) := by simp only [new]; omega
theorem new_W (m W : Int) : min (max W 1) (((new m W).m : Int) / 8) = ((new m W).W : Int) := by rw [← new_m]; simp only [new]; omega
/-- n lies the window or more ahead -/
def far (s : Od) (n : Int) : Bool := decide ((s.W : Int) ≤ (n - (s.e : Int)) % (s.m : Int))
/-- n is kept -/
def had (s : Od) (n : Int) : Bool := (lk s.k (n % (s.m : Int))).isSome
def add (s : Od) (n : Int) (x : List UInt8) : Od := ⟨s.m, s.W, s.e, s.k ++ [(n % (s.m : Int), x)], s.r⟩
/-- the expected one, x, becomes ready -/
def step (s : Od) (x : List UInt8) : Od := ⟨s.m, s.W, (s.e + 1) % s.m, dl s.k (s.e : Int), s.r ++ [x]⟩
def adv : Nat → Od → Od
  | 0, s => s
  | f + 1, s => match lk s.k (s.e : Int) with
    | none => s
    | some x => adv f (s.step x)
def put (s : Od) (n : Int) (x : List UInt8) : Od := if s.far n then s else if s.had n then s else adv ((s.add n x).k.length + 1) (s.add n x)
def putN (s : Od) (n : Int) (x : List UInt8) : Int := if s.far n then -1 else if s.had n then 0 else ((s.put n x).r.length : Int) - (s.r.length : Int)
def take (s : Od) : Od := ⟨s.m, s.W, s.e, s.k, s.r.drop 1⟩
def takeX (s : Od) : List UInt8 := s.r.getD 0 []
def takeB (s : Od) : Bool := s.r.length != 0
def clear (s : Od) : Od := ⟨s.m, s.W, 0, [], s.r⟩
def gap (s : Od) : Bool := s.k.length != 0
section
variable {s : Od}
theorem Ok.add (h : s.Ok) {n : Int} {x : List UInt8} (hn : s.had n = false) (hx : x.length ≤ 1048576) : (s.add n x).Ok := by
  have hl : lk s.k (n % (s.m : Int)) = none := by unfold had at hn; cases he : lk s.k (n % (s.m : Int)) with | none => rfl | some y => rw [he] at hn; cases hn
  refine ⟨h.m8, h.m9, h.w1, h.w8, h.e9, ds_snoc h.ds hl, ?_, h.small⟩
  intro p hp
  rcases List.mem_append.1 hp with hp | hp
  · exact h.key p hp
  · rw [List.mem_singleton.1 hp]
    have h8 := h.m8
    exact ⟨Int.emod_nonneg _ (by show (s.m : Int) ≠ 0; omega), Int.emod_lt_of_pos _ (by show 0 < (s.m : Int); omega), hx⟩
theorem Ok.step (h : s.Ok) {x : List UInt8} (hx : lk s.k (s.e : Int) = some x) : (s.step x).Ok := by
  refine ⟨h.m8, h.m9, h.w1, h.w8, Nat.mod_lt _ (by have := h.m8; omega), ds_dl h.ds, fun p hp => h.key p (mem_dl hp), fun y hy => ?_⟩
  rcases List.mem_append.1 hy with hy | hy
  · exact h.small y hy
  · rw [List.mem_singleton.1 hy]
    exact (h.key _ (lk_mem hx)).2.2
theorem Ok.adv : ∀ (f : Nat) {s : Od}, s.Ok → (adv f s).Ok
  | 0, _, h => h
  | f + 1, s, h => by
    unfold Od.adv
    split
    · exact h
    · next x hx => exact Ok.adv f (h.step hx)
theorem Ok.put (h : s.Ok) (n : Int) {x : List UInt8} (hx : x.length ≤ 1048576) : (s.put n x).Ok := by
  unfold Od.put
  split
  · exact h
  · split
    · exact h
    · next hn => exact Ok.adv _ (h.add (by simpa using hn) hx)
theorem Ok.take (h : s.Ok) : s.take.Ok := ⟨h.m8, h.m9, h.w1, h.w8, h.e9, h.ds, h.key, fun x hx => h.small x (List.mem_of_mem_drop hx)⟩
theorem Ok.clear (h : s.Ok) : s.clear.Ok := ⟨h.m8, h.m9, h.w1, h.w8, by have := h.m8; show 0 < s.m; omega, trivial, fun p hp => (List.not_mem_nil hp).elim, h.small⟩
/-- how many are kept and ready together -/
def all (s : Od) : Nat := s.k.length + s.r.length
theorem step_all {x : List UInt8} (hx : lk s.k (s.e : Int) = some x) : (s.step x).all = s.all ∧ (s.step x).k.length + 1 = s.k.length := by
  have := dl_len_some hx
  unfold all step
  simp only [List.length_append, List.length_singleton]
  omega
theorem adv_all : ∀ (f : Nat) {s : Od}, (Od.adv f s).all = s.all
  | 0, _ => rfl
  | f + 1, s => by
    unfold Od.adv
    split
    · rfl
    · next x hx => rw [adv_all f]; exact (step_all hx).1
theorem put_all (s : Od) (n : Int) (x : List UInt8) : (s.put n x).all ≤ s.all + 1 := by
  unfold Od.put
  split
  · omega
  · split
    · omega
    · rw [adv_all]; unfold Od.add all; simp only [List.length_append, List.length_singleton]; omega
theorem take_all (s : Od) : s.take.all ≤ s.all := by unfold Od.take all; simp only [List.length_drop]; omega
theorem clear_all (s : Od) : s.clear.all ≤ s.all := by unfold Od.clear all; simp only [List.length_nil]; omega
theorem adv_none {f : Nat} (h : lk s.k (s.e : Int) = none) : Od.adv f s = s := by
  cases f
  · rfl
  · unfold Od.adv; rw [h]
theorem adv_some {f : Nat} {x : List UInt8} (h : lk s.k (s.e : Int) = some x) : Od.adv (f + 1) s = Od.adv f (s.step x) := by
  rw [Od.adv, h]
/-- the number that the program reckons -/
theorem nx_int (s : Od) : (((s.e + 1) % s.m : Nat) : Int) = ((s.e : Int) + 1) % (s.m : Int) := by simp
theorem put_far {n : Int} {x : List UInt8} (h : s.far n = true) : s.put n x = s ∧ s.putN n x = -1 := by unfold Od.put putN; rw [if_pos h, if_pos h]; exact ⟨rfl, rfl⟩
theorem put_had {n : Int} {x : List UInt8} (h : s.far n = false) (h' : s.had n = true) : s.put n x = s ∧ s.putN n x = 0 := by unfold Od.put putN; rw [h, h']; exact ⟨rfl, rfl⟩
theorem put_new {n : Int} {x : List UInt8} (h : s.far n = false) (h' : s.had n = false) : s.put n x = Od.adv ((s.add n x).k.length + 1) (s.add n x) ∧ s.putN n x = ((Od.adv ((s.add n x).k.length + 1) (s.add n x)).r.length : Int) - (s.r.length : Int) := by
  have e : s.put n x = Od.adv ((s.add n x).k.length + 1) (s.add n x) := by unfold Od.put; rw [h, h']; rfl
  refine ⟨e, ?_⟩
  unfold putN; rw [h, h', e]; rfl
theorem had_none {n : Int} (h : s.had n = false) : lk s.k (n % (s.m : Int)) = none := by unfold had at h; cases he : lk s.k (n % (s.m : Int)) with | none => rfl | some y => rw [he] at h; cases h
theorem had_some {n : Int} (h : s.had n = true) : ∃ y, lk s.k (n % (s.m : Int)) = some y := by unfold had at h; exact Option.isSome_iff_exists.1 h
end
end Od
end Go.Proofs.Ytbalhpffdgbdgaa

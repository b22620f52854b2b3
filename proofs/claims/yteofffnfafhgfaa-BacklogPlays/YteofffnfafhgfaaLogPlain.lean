/- A log of messages, plainly: what each call makes of it and answers. No condition. -/
namespace Go.Proofs.Yteofffnfafhgfaa
/-- A log: its modulus, its window, its queue, the number of the first message that is out, how many are out, all messages. -/
structure Lg where
  m : Nat
  W : Nat
  Q : Nat
  f : Nat
  n : Nat
  l : List (List UInt8)
namespace Lg
/-- the next number -/
def nx (s : Lg) : Nat := (s.f + s.n) % s.m
structure Ok (s : Lg) : Prop where
  m8 : 8 ≤ s.m
  m9 : s.m ≤ 32768
  w1 : 1 ≤ s.W
  w8 : s.W * 8 ≤ s.m
  q9 : s.Q ≤ 1000
  f9 : s.f < s.m
  n9 : s.n ≤ s.W
  nl : s.n ≤ s.l.length
  lq : s.l.length ≤ s.n + s.Q
  small : ∀ x ∈ s.l, x.length ≤ 1048576
/-- a new one -/
def new (m W Q : Int) : Lg := ⟨(min (max m 8) 32768).toNat, (min (max W 1) (min (max m 8) 32768 / 8)).toNat, (min (max Q 0) 1000).toNat, 0, 0, []⟩
theorem new_ok (m W Q : Int) : (new m W Q).Ok := by
  refine ⟨?_, ?_, ?_, ?_, ?_, ?_, ?_, ?_, ?_, ?_⟩ <;> simp only [new]
  case refine_10 => intro x hx; cases hx
  all_goals first | omega | (simp only [List.length_nil]; omega)
theorem new_m (m W Q : Int) : min (max m 8) 32768 = ((new m W Q).m : Int) := by simp only [new]; omega
theorem new_W (m W Q : Int) : min (max W 1) (((new m W Q).m : Int) / 8) = ((new m W Q).W : Int) := by rw [← new_m]; simp only [new]; omega
theorem new_Q (m W Q : Int) : min (max Q 0) 1000 = ((new m W Q).Q : Int) := by simp only [new]; omega
theorem new_nx (m W Q : Int) : (new m W Q).nx = 0 := by unfold nx; show (0 + 0) % _ = 0; simp
/-- may no more wait? -/
def full (s : Lg) : Bool := decide (s.Q ≤ s.l.length - s.n)
def add (s : Lg) (x : List UInt8) : Lg := if s.full then s else ⟨s.m, s.W, s.Q, s.f, s.n, s.l ++ [x]⟩
def addE (s : Lg) : Int := if s.full then 6 else 0
/-- may none become out? -/
def stop (s : Lg) : Bool := s.n == s.l.length || decide (s.W ≤ s.n)
def next (s : Lg) : Lg := if s.stop then s else ⟨s.m, s.W, s.Q, s.f, s.n + 1, s.l⟩
def nextN (s : Lg) : Nat := if s.stop then 0 else s.nx
def nextX (s : Lg) : List UInt8 := if s.stop then [] else s.l.getD s.n []
/-- how far k lies behind the first number -/
def ds (s : Lg) (k : Nat) : Nat := (k + s.m - s.f) % s.m
/-- is k a number? -/
def isN (s : Lg) (k : Int) : Bool := decide (0 ≤ k) && decide (k < (s.m : Int))
def hit (s : Lg) (k : Int) : Bool := s.isN k && decide (s.ds k.toNat ≤ s.n)
def ack (s : Lg) (k : Int) : Lg := if s.hit k then ⟨s.m, s.W, s.Q, k.toNat, s.n - s.ds k.toNat, s.l.drop (s.ds k.toNat)⟩ else s
def ackN (s : Lg) (k : Int) : Nat := if s.hit k then s.ds k.toNat else 0
def has (s : Lg) (k : Int) : Bool := s.isN k && decide (s.ds k.toNat < s.n)
def body (s : Lg) (k : Int) : List UInt8 := if s.has k then s.l.getD (s.ds k.toNat) [] else []
def out (s : Lg) : List Nat := (List.range s.n).map fun i => (s.f + i) % s.m
def clear (s : Lg) : Lg := ⟨s.m, s.W, s.Q, 0, 0, []⟩
section
variable {s : Lg}
theorem out_len (s : Lg) : s.out.length = s.n := by simp [out]
theorem Ok.add (h : s.Ok) {x : List UInt8} (hx : x.length ≤ 1048576) : (s.add x).Ok := by
  unfold Lg.add
  split
  · exact h
  · next hf =>
    have hf' : ¬ s.Q ≤ s.l.length - s.n := fun e => hf (by unfold full; exact decide_eq_true e)
    obtain ⟨h1, h2, h3, h4, h5, h6, h7, h8, h9, h10⟩ := h
    refine ⟨h1, h2, h3, h4, h5, h6, h7, ?_, ?_, ?_⟩
    · simp only [List.length_append, List.length_singleton]; omega
    · simp only [List.length_append, List.length_singleton]; omega
    · intro y hy
      rcases List.mem_append.1 hy with hy | hy
      · exact h10 y hy
      · rw [List.mem_singleton.1 hy]; exact hx
theorem stop_false (hs : s.stop = false) : s.n ≠ s.l.length ∧ ¬ s.W ≤ s.n := by
  unfold stop at hs
  simp at hs
  exact ⟨hs.1, by omega⟩
theorem Ok.next (h : s.Ok) : s.next.Ok := by
  unfold Lg.next
  split
  · exact h
  · next hf =>
    obtain ⟨e1, e2⟩ := stop_false (by simpa using hf)
    obtain ⟨h1, h2, h3, h4, h5, h6, h7, h8, h9, h10⟩ := h
    exact ⟨h1, h2, h3, h4, h5, h6, by show s.n + 1 ≤ s.W; omega, by show s.n + 1 ≤ s.l.length; omega, by show s.l.length ≤ s.n + 1 + s.Q; omega, h10⟩
theorem next_nx (hs : s.stop = false) : s.next.nx = (s.nx + 1) % s.m := by
  unfold Lg.next
  rw [if_neg (by simp [hs])]
  unfold nx
  show (s.f + (s.n + 1)) % s.m = _
  rw [Nat.mod_add_mod, Nat.add_assoc]
theorem hit_true {k : Int} (hk : s.hit k = true) : ∃ j : Nat, k = j ∧ j < s.m ∧ s.ds j ≤ s.n := by
  unfold hit isN at hk
  simp at hk
  exact ⟨k.toNat, by omega, by omega, hk.2⟩
theorem hit_nat {j : Nat} (hj : j < s.m) : s.hit (j : Int) = decide (s.ds j ≤ s.n) := by
  unfold hit isN
  have h1 : decide ((0 : Int) ≤ (j : Int)) = true := decide_eq_true (by omega)
  have h2 : decide ((j : Int) < (s.m : Int)) = true := decide_eq_true (by omega)
  rw [h1, h2]; simp
theorem has_nat {j : Nat} (hj : j < s.m) : s.has (j : Int) = decide (s.ds j < s.n) := by
  unfold has isN
  have h1 : decide ((0 : Int) ≤ (j : Int)) = true := decide_eq_true (by omega)
  have h2 : decide ((j : Int) < (s.m : Int)) = true := decide_eq_true (by omega)
  rw [h1, h2]; simp
theorem hit_no {k : Int} (h : s.isN k = false) : s.hit k = false ∧ s.has k = false := by unfold hit has; rw [h]; exact ⟨rfl, rfl⟩
/-- the distance and the number -/
theorem mod_two {a m : Nat} (h : a < 2 * m) : a % m = if a < m then a else a - m := by
  split
  · next h' => exact Nat.mod_eq_of_lt h'
  · next h' => rw [Nat.mod_eq_sub_mod (by omega), Nat.mod_eq_of_lt (by omega)]
theorem ds_eq {s : Lg} (h : s.Ok) {j : Nat} (hj : j < s.m) : s.ds j = if s.f ≤ j then j - s.f else j + s.m - s.f := by
  have := h.f9
  unfold ds
  rw [mod_two (by omega)]
  split <;> split <;> omega
theorem num_eq {s : Lg} (h : s.Ok) {i : Nat} (hi : i ≤ s.m) : (s.f + i) % s.m = if s.f + i < s.m then s.f + i else s.f + i - s.m := mod_two (by have := h.f9; omega)
/-- the i-th number behind the first is j, just where j lies i behind -/
theorem num_ds {s : Lg} (h : s.Ok) {i j : Nat} (hi : i < s.m) (hj : j < s.m) : (s.f + i) % s.m = j ↔ s.ds j = i := by
  have := h.f9
  rw [ds_eq h hj, num_eq h (by omega)]
  split <;> split <;> omega
theorem ds_lt {s : Lg} (h : s.Ok) (j : Nat) : s.ds j < s.m := Nat.mod_lt _ (by have := h.m8; omega)
theorem n_lt {s : Lg} (h : s.Ok) : s.n < s.m := by have := h.n9; have := h.w8; have := h.w1; omega
theorem nx_lt {s : Lg} (h : s.Ok) : s.nx < s.m := Nat.mod_lt _ (by have := h.m8; omega)
theorem Ok.ack {s : Lg} (h : s.Ok) (k : Int) : (s.ack k).Ok := by
  unfold Lg.ack
  split
  · next hk =>
    obtain ⟨j, rfl, hj, hd⟩ := hit_true hk
    obtain ⟨h1, h2, h3, h4, h5, h6, h7, h8, h9, h10⟩ := h
    refine ⟨h1, h2, h3, h4, h5, ?_, ?_, ?_, ?_, ?_⟩
    · show (j : Int).toNat < s.m; omega
    · show s.n - s.ds (j : Int).toNat ≤ s.W; omega
    · show s.n - s.ds (j : Int).toNat ≤ (s.l.drop (s.ds (j : Int).toNat)).length
      rw [List.length_drop]; omega
    · show (s.l.drop (s.ds (j : Int).toNat)).length ≤ s.n - s.ds (j : Int).toNat + s.Q
      rw [List.length_drop]; simp only [Int.toNat_natCast]; omega
    · exact fun x hx => h10 x (List.mem_of_mem_drop hx)
  · exact h
theorem ack_nx {s : Lg} (h : s.Ok) {j : Nat} (hj : j < s.m) (hd : s.ds j ≤ s.n) : (⟨s.m, s.W, s.Q, j, s.n - s.ds j, s.l.drop (s.ds j)⟩ : Lg).nx = s.nx := by
  have h1 := n_lt h
  have h2 := (num_ds h (ds_lt h j) hj).2 rfl
  unfold nx
  show (j + (s.n - s.ds j)) % s.m = _
  have h3 : (s.f + s.n) % s.m = ((s.f + s.ds j) + (s.n - s.ds j)) % s.m := by congr 1; omega
  rw [h3, ← Nat.mod_add_mod (s.f + s.ds j), h2]
theorem Ok.clear {s : Lg} (h : s.Ok) : s.clear.Ok := by
  obtain ⟨h1, h2, h3, h4, h5, h6, h7, h8, h9, h10⟩ := h
  exact ⟨h1, h2, h3, h4, h5, by show 0 < s.m; omega, Nat.zero_le _, Nat.zero_le _, Nat.zero_le _, fun x hx => by cases hx⟩
theorem clear_nx (s : Lg) : s.clear.nx = 0 := by unfold nx; show (0 + 0) % _ = 0; simp
theorem get_small {s : Lg} (h : s.Ok) (i : Nat) : (s.l.getD i []).length ≤ 1048576 := by
  rw [List.getD_eq_getElem?_getD]
  rcases hx : s.l[i]? with _ | x
  · exact Nat.zero_le _
  · exact h.small x (List.mem_of_getElem? hx)
theorem Ok.len {s : Lg} (h : s.Ok) : s.l.length ≤ 5096 := by have := h.lq; have := h.n9; have := h.w8; have := h.m9; have := h.q9; omega
/-- the distance that the program reckons -/
theorem dist_int {s : Lg} (h : s.Ok) {j : Nat} (hj : j < s.m) : ((j : Int) - (s.f : Int)) % (s.m : Int) = (s.ds j : Int) := by
  have hf := h.f9
  rw [ds_eq h hj]
  split
  · next e =>
    rw [Int.emod_eq_of_lt (by omega) (by omega)]
    omega
  · next e =>
    rw [← Int.add_emod_right, Int.emod_eq_of_lt (by omega) (by omega)]
    omega
theorem sent_int {s : Lg} (h : s.Ok) : ((s.nx : Int) - (s.f : Int)) % (s.m : Int) = (s.n : Int) := by
  rw [dist_int h (nx_lt h), (num_ds h (n_lt h) (nx_lt h)).1 rfl]
end
end Lg
end Go.Proofs.Yteofffnfafhgfaa

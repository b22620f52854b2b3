/- Two ends that connect at once, plainly: what is carried brings both Up in one session, whatever comes first. No condition. -/
import Derived.Test.YtdidmpimlodffaaG15
namespace Go.Proofs.Ytdidmpimlodffaa
set_option linter.unusedVariables false

/-- how many are carried from each -/
inductive Mt | s00 | s10 | s01 | s11 | s21 | s12 | s22
def Mt.nx : Mt → Bool → Mt
  | .s00, false => .s10 | .s10, false => .s10 | .s01, false => .s11 | .s11, false => .s21 | .s21, false => .s21 | .s12, false => .s22 | .s22, false => .s22
  | .s00, true => .s01 | .s10, true => .s11 | .s01, true => .s01 | .s11, true => .s12 | .s21, true => .s22 | .s12, true => .s12 | .s22, true => .s22
def Mt.rd (s : Mt) : Mt := (s.nx false).nx true
def Mt.it : Nat → Mt → Mt
  | 0, s => s
  | n + 1, s => (Mt.it n s).rd
theorem Mt.it_end (s : Mt) : Mt.it 20 s = .s22 := by cases s <;> rfl
section
variable (c : Cf)
def mtX : List UInt8 := Aq.hd 1 ++ enc 3 0 0 true (Aq.newC c).m ++ []
def mtY : List UInt8 := Aq.hd 1 ++ enc 4 0 0 true (Aq.newC c).m ++ []
def mtP (a0 a1 : Aq) (w0 w1 : List (List UInt8)) : Pr := ⟨fun i => if i then a1 else a0, fun i => if i then w1 else w0, fun _ => [], fun _ => [], 0⟩
def mt : Mt → Pr
  | .s00 => mtP (upA c) (upA c) [mtX c] [mtX c]
  | .s10 => mtP (upA c) (upS c) [] [mtX c, mtY c]
  | .s01 => mtP (upS c) (upA c) [mtX c, mtY c] []
  | .s11 => mtP (upS c) (upS c) [mtY c] [mtY c]
  | .s21 => mtP (upS c) (upS c) [] [mtY c]
  | .s12 => mtP (upS c) (upS c) [mtY c] []
  | .s22 => mtP (upS c) (upS c) [] []
theorem mt_end : mt c .s22 = upP c := by
  apply Pr.ext' <;> first | rfl | (intro i; cases i <;> rfl)
theorem mt_begin : (((Pr.start (Aq.newC c) (Aq.newC c)).setA false (Aq.newC c).connect).setA true (Aq.newC c).connect).collect = mt c .s00 := by
  apply Pr.ext' <;> first | rfl | (intro i; cases i <;> rfl)
theorem mt_inX : (upA c).input (mtX c) = (upA c).accept 1 true := by
  obtain ⟨h1, -, h2, -⟩ := rd_open _ (newC_m c)
  unfold mtX
  rw [List.append_nil, input_open (s := upA c) (by omega) h1]
  have hs : (upA c).st = 1 := rfl
  have ht : (upA c).tg = 1 := rfl
  simp [Aq.proc, Aq.request, hs, ht]
theorem mt_inY : (upS c).input (mtY c) = upS c := by
  obtain ⟨-, h1, -, h2⟩ := rd_open _ (newC_m c)
  unfold mtY
  rw [List.append_nil, input_open (s := upS c) (by omega) h1]
  have hs : (upS c).st = 2 := rfl
  have ht : (upS c).tg = 1 := rfl
  simp [Aq.proc, Aq.ua, hs, ht]
theorem mt_step (s : Mt) (i : Bool) : (mt c s).carry i false = mt c (s.nx i) := by
  cases s <;> cases i
  case s00.false =>
    show (((mt c .s00).setWay false []).setA true ((upA c).input (mtX c))).collect = _
    rw [mt_inX]
    apply Pr.ext' <;> first | rfl | (intro i; cases i <;> rfl)
  case s00.true =>
    show (((mt c .s00).setWay true []).setA false ((upA c).input (mtX c))).collect = _
    rw [mt_inX]
    apply Pr.ext' <;> first | rfl | (intro i; cases i <;> rfl)
  case s10.true =>
    show (((mt c .s10).setWay true [mtY c]).setA false ((upA c).input (mtX c))).collect = _
    rw [mt_inX]
    apply Pr.ext' <;> first | rfl | (intro i; cases i <;> rfl)
  case s01.false =>
    show (((mt c .s01).setWay false [mtY c]).setA true ((upA c).input (mtX c))).collect = _
    rw [mt_inX]
    apply Pr.ext' <;> first | rfl | (intro i; cases i <;> rfl)
  case s11.false =>
    show (((mt c .s11).setWay false []).setA true ((upS c).input (mtY c))).collect = _
    rw [mt_inY]
    apply Pr.ext' <;> first | rfl | (intro i; cases i <;> rfl)
  case s11.true =>
    show (((mt c .s11).setWay true []).setA false ((upS c).input (mtY c))).collect = _
    rw [mt_inY]
    apply Pr.ext' <;> first | rfl | (intro i; cases i <;> rfl)
  case s21.true =>
    show (((mt c .s21).setWay true []).setA false ((upS c).input (mtY c))).collect = _
    rw [mt_inY]
    apply Pr.ext' <;> first | rfl | (intro i; cases i <;> rfl)
  case s12.false =>
    show (((mt c .s12).setWay false []).setA true ((upS c).input (mtY c))).collect = _
    rw [mt_inY]
    apply Pr.ext' <;> first | rfl | (intro i; cases i <;> rfl)
  all_goals rfl
theorem upS_room : (upS c).Room := ⟨Nat.zero_le _, Nat.zero_le _, Nat.zero_le _, Nat.zero_le _, Nat.zero_le _, Nat.zero_le _⟩
theorem upA_room' : (upA c).Room := ⟨Nat.zero_le _, Nat.zero_le _, Nat.zero_le _, Nat.zero_le _, Nat.zero_le _, Nat.zero_le _⟩
theorem mt_lenX : (mtX c).length ≤ 90000 ∧ (mtY c).length ≤ 90000 := by
  obtain ⟨-, -, h1, h2⟩ := rd_open _ (newC_m c)
  unfold mtX mtY
  rw [List.append_nil, List.append_nil, List.length_append, List.length_append, h1, h2]
  decide
theorem mt_room (s : Mt) (i : Bool) : ∀ x l, (mt c s).way i = x :: l → ((mt c s).a (!i)).Room ∧ x.length ≤ 90000 ∧ (if false = true then (mt c s).setWay i l else ((mt c s).setWay i l).setA (!i) (((mt c s).a (!i)).input x)).Room := by
  intro x l h
  have hr : ∀ a0 a1 w0 w1, (a0 = upA c ∨ a0 = upS c ∨ a0 = (upA c).accept 1 true) → (a1 = upA c ∨ a1 = upS c ∨ a1 = (upA c).accept 1 true) → w0.length ≤ 2 → w1.length ≤ 2 → (mtP a0 a1 w0 w1).Room := by
    intro a0 a1 w0 w1 h0 h1 hw0 hw1
    have o : ∀ a, (a = upA c ∨ a = upS c ∨ a = (upA c).accept 1 true) → a.os.length ≤ 1 ∧ a.is.length ≤ 1 ∧ a.od.r.length = 0 := by
      rintro a (rfl | rfl | rfl)
      · exact ⟨Nat.zero_le _, Nat.zero_le _, rfl⟩
      · exact ⟨Nat.zero_le _, Nat.zero_le _, rfl⟩
      · exact ⟨Nat.le_refl 1, Nat.le_refl 1, rfl⟩
    obtain ⟨p1, p2, p3⟩ := o a0 h0
    obtain ⟨q1, q2, q3⟩ := o a1 h1
    refine ⟨fun i => ?_, fun i => ?_, fun i => ?_, ?_⟩
    · cases i
      · show w0.length + a0.os.length ≤ _; omega
      · show w1.length + a1.os.length ≤ _; omega
    · cases i
      · show 0 + a0.od.r.length ≤ _; omega
      · show 0 + a1.od.r.length ≤ _; omega
    · cases i
      · show a0.is.length ≤ _; omega
      · show a1.is.length ≤ _; omega
    · show 0 + a0.is.length + a1.is.length ≤ _; omega
  have e : ∀ a0 a1 w0 w1 (q : Pr), q.a false = a0 → q.a true = a1 → q.way false = w0 → q.way true = w1 → (∀ i, q.heard i = []) → (∀ i, q.said i = []) → q.downs = 0 → q = mtP a0 a1 w0 w1 := by
    intro a0 a1 w0 w1 q h1 h2 h3 h4 h5 h6 h7
    apply Pr.ext'
    · intro i; cases i; exact h1; exact h2
    · intro i; cases i; exact h3; exact h4
    · exact h5
    · exact h6
    · exact h7
  have b1 : (2 : Nat) ≤ 2 := Nat.le_refl _
  obtain ⟨lx, ly⟩ := mt_lenX c
  cases s <;> cases i
  case s00.false =>
    have h : [mtX c] = x :: l := h
    injection h with h1 h2; subst h1 h2
    refine ⟨upA_room' c, lx, ?_⟩
    rw [show (if false = true then (mt c .s00).setWay false [] else ((mt c .s00).setWay false []).setA (!false) (((mt c .s00).a (!false)).input (mtX c))) = mtP (upA c) ((upA c).accept 1 true) [] [mtX c] from e _ _ _ _ _ rfl (mt_inX c) rfl rfl (fun _ => rfl) (fun _ => rfl) rfl]
    exact hr _ _ _ _ (.inl rfl) (.inr (.inr rfl)) (by simp) (by simp)
  case s00.true =>
    have h : [mtX c] = x :: l := h
    injection h with h1 h2; subst h1 h2
    refine ⟨upA_room' c, lx, ?_⟩
    rw [show (if false = true then (mt c .s00).setWay true [] else ((mt c .s00).setWay true []).setA (!true) (((mt c .s00).a (!true)).input (mtX c))) = mtP ((upA c).accept 1 true) (upA c) [mtX c] [] from e _ _ _ _ _ (mt_inX c) rfl rfl rfl (fun _ => rfl) (fun _ => rfl) rfl]
    exact hr _ _ _ _ (.inr (.inr rfl)) (.inl rfl) (by simp) (by simp)
  case s10.true =>
    have h : [mtX c, mtY c] = x :: l := h
    injection h with h1 h2; subst h1 h2
    refine ⟨upA_room' c, lx, ?_⟩
    rw [show (if false = true then (mt c .s10).setWay true [mtY c] else ((mt c .s10).setWay true [mtY c]).setA (!true) (((mt c .s10).a (!true)).input (mtX c))) = mtP ((upA c).accept 1 true) (upS c) [] [mtY c] from e _ _ _ _ _ (mt_inX c) rfl rfl rfl (fun _ => rfl) (fun _ => rfl) rfl]
    exact hr _ _ _ _ (.inr (.inr rfl)) (.inr (.inl rfl)) (by simp) (by simp)
  case s01.false =>
    have h : [mtX c, mtY c] = x :: l := h
    injection h with h1 h2; subst h1 h2
    refine ⟨upA_room' c, lx, ?_⟩
    rw [show (if false = true then (mt c .s01).setWay false [mtY c] else ((mt c .s01).setWay false [mtY c]).setA (!false) (((mt c .s01).a (!false)).input (mtX c))) = mtP (upS c) ((upA c).accept 1 true) [mtY c] [] from e _ _ _ _ _ rfl (mt_inX c) rfl rfl (fun _ => rfl) (fun _ => rfl) rfl]
    exact hr _ _ _ _ (.inr (.inl rfl)) (.inr (.inr rfl)) (by simp) (by simp)
  case s11.false =>
    have h : [mtY c] = x :: l := h
    injection h with h1 h2; subst h1 h2
    refine ⟨upS_room c, ly, ?_⟩
    rw [show (if false = true then (mt c .s11).setWay false [] else ((mt c .s11).setWay false []).setA (!false) (((mt c .s11).a (!false)).input (mtY c))) = mtP (upS c) (upS c) [] [mtY c] from e _ _ _ _ _ rfl (mt_inY c) rfl rfl (fun _ => rfl) (fun _ => rfl) rfl]
    exact hr _ _ _ _ (.inr (.inl rfl)) (.inr (.inl rfl)) (by simp) (by simp)
  case s11.true =>
    have h : [mtY c] = x :: l := h
    injection h with h1 h2; subst h1 h2
    refine ⟨upS_room c, ly, ?_⟩
    rw [show (if false = true then (mt c .s11).setWay true [] else ((mt c .s11).setWay true []).setA (!true) (((mt c .s11).a (!true)).input (mtY c))) = mtP (upS c) (upS c) [mtY c] [] from e _ _ _ _ _ (mt_inY c) rfl rfl rfl (fun _ => rfl) (fun _ => rfl) rfl]
    exact hr _ _ _ _ (.inr (.inl rfl)) (.inr (.inl rfl)) (by simp) (by simp)
  case s21.true =>
    have h : [mtY c] = x :: l := h
    injection h with h1 h2; subst h1 h2
    refine ⟨upS_room c, ly, ?_⟩
    rw [show (if false = true then (mt c .s21).setWay true [] else ((mt c .s21).setWay true []).setA (!true) (((mt c .s21).a (!true)).input (mtY c))) = mtP (upS c) (upS c) [] [] from e _ _ _ _ _ (mt_inY c) rfl rfl rfl (fun _ => rfl) (fun _ => rfl) rfl]
    exact hr _ _ _ _ (.inr (.inl rfl)) (.inr (.inl rfl)) (by simp) (by simp)
  case s12.false =>
    have h : [mtY c] = x :: l := h
    injection h with h1 h2; subst h1 h2
    refine ⟨upS_room c, ly, ?_⟩
    rw [show (if false = true then (mt c .s12).setWay false [] else ((mt c .s12).setWay false []).setA (!false) (((mt c .s12).a (!false)).input (mtY c))) = mtP (upS c) (upS c) [] [] from e _ _ _ _ _ rfl (mt_inY c) rfl rfl (fun _ => rfl) (fun _ => rfl) rfl]
    exact hr _ _ _ _ (.inr (.inl rfl)) (.inr (.inl rfl)) (by simp) (by simp)
  all_goals cases h
theorem mt_room0 : (((Pr.start (Aq.newC c) (Aq.newC c)).setA false (Aq.newC c).connect).setA true (Aq.newC c).connect).Room :=
  ⟨fun i => by cases i <;> exact (by decide : 1 ≤ 1000000), fun i => by cases i <;> exact Nat.zero_le _, fun i => by cases i <;> exact Nat.zero_le _, Nat.zero_le _⟩
end
end Go.Proofs.Ytdidmpimlodffaa

/- Plain mathematics of a reader of frames: its states, what an octet makes of them and what it tells; what a whole frame tells. No condition on the program: nothing of it is named here. -/
import Derived.Test.YtnogdlekijpdhaaFcsRefCheck
import Derived.Test.YtnogdlekijpdhaaOctPlain
namespace Go.Proofs.Ytnogdlekijpdhaa.Fra
open Fcs Oct
set_option linter.unusedVariables false

/-- outside of frames; within one, behind an Escape or not, with what was received; within one that is too long -/
abbrev St : Type := Option (Option (Bool × List UInt8))
def St.out : St := none
def St.long : St := some none
def St.rd (e : Bool) (acc : List UInt8) : St := some (some (e, acc))
theorem st_cases (s : St) : s = .out ∨ (∃ acc, s = .rd false acc) ∨ (∃ acc, s = .rd true acc) ∨ s = .long := by
  rcases s with _ | _ | ⟨_ | _, acc⟩
  · exact .inl rfl
  · exact .inr (.inr (.inr rfl))
  · exact .inr (.inl ⟨acc, rfl⟩)
  · exact .inr (.inr (.inl ⟨acc, rfl⟩))
def St.acc : St → List UInt8
  | some (some x) => x.2
  | _ => []
def St.num : St → Nat
  | none => 0
  | some none => 3
  | some (some (false, _)) => 1
  | some (some (true, _)) => 2
/-- an octet is received -/
def recv (L : Nat) (acc : List UInt8) (c : UInt8) : St := if L < acc.length + 1 then .long else .rd false (acc ++ [c])
/-- an octet that is no Flag -/
def step (L : Nat) : St → UInt8 → St
  | none, _ => .out
  | some none, _ => .long
  | some (some (false, acc)), c => if c = 125 then .rd true acc else recv L acc c
  | some (some (true, acc)), c => recv L acc (c ^^^ 32)
def next (L : Nat) (s : St) (c : UInt8) : St := if c = 126 then .rd false [] else step L s c
/-- what was received between two Flags -/
def judge (wide : Bool) (acc : List UInt8) : Int × List UInt8 :=
  if acc.length = 0 then (0, []) else if acc.length ≤ sumN wide then (2, []) else if chkE wide acc ≠ 0 then (4, []) else (1, chkB wide acc)
/-- what a Flag tells -/
def ends (wide : Bool) : St → Int × List UInt8
  | none => (0, [])
  | some none => (3, [])
  | some (some (true, _)) => (5, [])
  | some (some (false, acc)) => judge wide acc
def tells (wide : Bool) (s : St) (c : UInt8) : Int × List UInt8 := if c = 126 then ends wide s else (0, [])
/-- the state behind octets; the bodies that they tell -/
def after (L : Nat) (s : St) (l : List UInt8) : St := l.foldl (next L) s
def good (wide : Bool) (s : St) (c : UInt8) : List (List UInt8) := if (tells wide s c).1 = 1 then [(tells wide s c).2] else []
def told (L : Nat) (wide : Bool) : St → List UInt8 → List (List UInt8)
  | _, [] => []
  | s, c :: l => good wide s c ++ told L wide (next L s c) l

section
variable {L : Nat} {wide : Bool}
theorem after_append (s : St) (a b : List UInt8) : after L s (a ++ b) = after L (after L s a) b := by simp [after]
theorem told_append (s : St) (a b : List UInt8) : told L wide s (a ++ b) = told L wide s a ++ told L wide (after L s a) b := by
  induction a generalizing s with
  | nil => rfl
  | cons c a ih =>
    show good wide s c ++ told L wide (next L s c) (a ++ b) = (good wide s c ++ told L wide (next L s c) a) ++ _
    rw [ih, List.append_assoc]
    rfl
theorem good_plain (s : St) {c : UInt8} (h : c ≠ 126) : good wide s c = [] := by unfold good tells; rw [if_neg h]; rfl
theorem told_plain (s : St) (l : List UInt8) (h : ∀ x ∈ l, x ≠ 126) : told L wide s l = [] := by
  induction l generalizing s with
  | nil => rfl
  | cons c l ih =>
    show good wide s c ++ _ = []
    rw [good_plain s (h c (by simp)), ih _ (fun x hx => h x (by simp [hx]))]
    rfl
theorem next_flag (s : St) : next L s 126 = .rd false [] := by unfold next; rw [if_pos rfl]
theorem next_plain (s : St) {c : UInt8} (h : c ≠ 126) : next L s c = step L s c := by unfold next; rw [if_neg h]
theorem after_long (l : List UInt8) (h : ∀ x ∈ l, x ≠ 126) : after L .long l = .long := by
  induction l with
  | nil => rfl
  | cons c l ih =>
    show after L (next L .long c) l = _
    rw [next_plain _ (h c (by simp))]
    exact ih fun x hx => h x (by simp [hx])
theorem after_esc (acc : List UInt8) (c : UInt8) : after L (.rd false acc) (esc c) = recv L acc c := by
  unfold esc
  split
  · rename_i h
    have h1 : c ^^^ 32 ^^^ 32 = c := by rw [UInt8.xor_assoc]; simp
    have h2 : c ^^^ 32 ≠ 126 := by rcases h with rfl | rfl <;> decide
    show next L (next L (.rd false acc) 125) (c ^^^ 32) = _
    rw [next_plain (.rd false acc) (by decide : (125 : UInt8) ≠ 126), show step L (.rd false acc) 125 = .rd true acc from rfl, next_plain _ h2]
    show recv L acc (c ^^^ 32 ^^^ 32) = _
    rw [h1]
  · rename_i h
    simp only [not_or] at h
    show next L (.rd false acc) c = _
    rw [next_plain _ h.1]
    show (if c = 125 then St.rd true acc else recv L acc c) = _
    rw [if_neg h.2]
theorem after_stuff (acc x : List UInt8) (ha : acc.length ≤ L) : after L (.rd false acc) (stuff x) = if acc.length + x.length ≤ L then .rd false (acc ++ x) else .long := by
  induction x generalizing acc with
  | nil => simp [stuff, after, ha]
  | cons c x ih =>
    have e : stuff (c :: x) = esc c ++ stuff x := by simp [stuff]
    rw [e, after_append, after_esc]
    unfold recv
    by_cases h : L < acc.length + 1
    · rw [if_pos h, after_long _ (stuff_free x), if_neg (by simp; omega)]
    · rw [if_neg h, ih _ (by simp; omega)]
      have e1 : (acc ++ [c]).length + x.length = acc.length + (c :: x).length := by simp; omega
      have e2 : acc ++ [c] ++ x = acc ++ c :: x := by simp
      rw [e1, e2]
/-- octets without Flag and Escape -/
theorem after_clean (acc x : List UInt8) (ha : acc.length ≤ L) (h : ∀ c ∈ x, c ≠ 126 ∧ c ≠ 125) : after L (.rd false acc) x = if acc.length + x.length ≤ L then .rd false (acc ++ x) else .long := by
  have : stuff x = x := by
    clear ha
    induction x with
    | nil => rfl
    | cons c x ih =>
      have e : stuff (c :: x) = esc c ++ stuff x := by simp [stuff]
      have hc := h c (by simp)
      rw [e, ih (fun y hy => h y (by simp [hy]))]
      unfold esc
      rw [if_neg (by simp [hc.1, hc.2])]
      rfl
  have k := after_stuff (L := L) acc x ha
  rw [this] at k
  exact k
theorem sum_len (body : List UInt8) : (body ++ sumB wide body).length = body.length + sumN wide := by rw [List.length_append, sumB_len]
theorem chk_sum (body : List UInt8) : chkE wide (body ++ sumB wide body) = 0 ∧ chkB wide (body ++ sumB wide body) = body := by
  have h1 := sum_len (wide := wide) body
  have h2 : (body ++ sumB wide body).length - sumN wide = body.length := by omega
  have hE : chkE wide (body ++ sumB wide body) = 0 := by
    unfold chkE
    rw [if_neg (by omega), if_pos]
    rw [h2]
    simp
  refine ⟨hE, ?_⟩
  unfold chkB
  rw [if_pos hE, h2]
  simp
theorem judge_sum (body : List UInt8) (h : 0 < body.length) : judge wide (body ++ sumB wide body) = (1, body) := by
  have h1 := sum_len (wide := wide) body
  unfold judge
  rw [if_neg (by omega), if_neg (by omega), (chk_sum body).1, (chk_sum body).2]
  rfl
theorem judge_none (body : List UInt8) (h : body.length = 0) : (judge wide (body ++ sumB wide body)).1 ≠ 1 := by
  have h1 := sum_len (wide := wide) body
  have h2 : 0 < sumN wide := by cases wide <;> decide
  unfold judge
  rw [if_neg (by omega), if_pos (by omega)]
  decide
/-- what stands behind the Flag of a frame -/
def rest (wide : Bool) (body : List UInt8) : List UInt8 := stuff (body ++ sumB wide body) ++ [126]
def frame (wide : Bool) (body : List UInt8) : List UInt8 := 126 :: rest wide body
theorem after_rest (body : List UInt8) : after L (.rd false []) (rest wide body) = .rd false [] := by
  unfold rest
  rw [after_append]
  show next L (after L (.rd false []) (stuff (body ++ sumB wide body))) 126 = _
  exact next_flag _
/-- the body, where it is neither empty nor too long -/
def fits (L : Nat) (wide : Bool) (body : List UInt8) : List (List UInt8) := if 0 < body.length ∧ body.length + sumN wide ≤ L then [body] else []
theorem told_rest (body : List UInt8) : told L wide (.rd false []) (rest wide body) = fits L wide body := by
  unfold rest
  rw [told_append, told_plain _ _ (stuff_free _), after_stuff [] _ (Nat.zero_le _), List.nil_append, List.nil_append, List.length_nil, Nat.zero_add, sum_len]
  show good wide _ 126 ++ [] = _
  rw [List.append_nil]
  unfold good tells
  rw [if_pos rfl]
  unfold fits
  by_cases h : body.length + sumN wide ≤ L
  · rw [if_pos h]
    show (if (judge wide _).1 = 1 then [(judge wide _).2] else []) = _
    by_cases h0 : 0 < body.length
    · rw [judge_sum body h0, if_pos rfl, if_pos ⟨h0, h⟩]
    · rw [if_neg (judge_none body (by omega)), if_neg (fun k => h0 k.1)]
  · rw [if_neg h]
    show ([] : List (List UInt8)) = _
    rw [if_neg (fun k => h k.2)]
theorem good_flag0 : good wide (.rd false []) 126 = [] := by
  unfold good tells
  rw [if_pos rfl]
  rfl
theorem good_out (c : UInt8) : good wide .out c = [] := by
  unfold good tells
  split <;> rfl
theorem told_frame (body : List UInt8) : told L wide (.rd false []) (frame wide body) = fits L wide body := by
  show good wide _ 126 ++ told L wide (next L _ 126) _ = _
  rw [good_flag0, next_flag, told_rest]
  rfl
theorem told_frame_out (body : List UInt8) : told L wide .out (frame wide body) = fits L wide body := by
  show good wide _ 126 ++ told L wide (next L _ 126) _ = _
  rw [good_out, next_flag, told_rest]
  rfl
theorem after_frame (s : St) (body : List UInt8) : after L s (frame wide body) = .rd false [] := by
  show after L (next L s 126) _ = _
  rw [next_flag, after_rest]
theorem told_flags (n : Nat) : told L wide (.rd false []) (List.replicate n 126) = [] ∧ after L (.rd false []) (List.replicate n 126) = .rd false [] := by
  induction n with
  | zero => exact ⟨rfl, rfl⟩
  | succ n ih =>
    rw [List.replicate_succ]
    constructor
    · show good wide _ 126 ++ told L wide (next L _ 126) _ = _
      rw [good_flag0, next_flag, ih.1]
      rfl
    · show after L (next L (.rd false []) 126) (List.replicate n 126) = _
      rw [next_flag, ih.2]
/-- behind whatever octets a Flag and a frame -/
theorem told_last (s : St) (noise body : List UInt8) (h : 0 < body.length) (hL : body.length + sumN wide ≤ L) : told L wide s (noise ++ 126 :: frame wide body) = told L wide s (noise ++ [126]) ++ [body] := by
  have e : noise ++ 126 :: frame wide body = (noise ++ [126]) ++ frame wide body := by simp
  rw [e, told_append, after_append]
  show _ ++ told L wide (next L (after L s noise) 126) _ = _
  rw [next_flag, told_frame]
  unfold fits
  rw [if_pos ⟨h, hL⟩]
theorem acc_recv (acc : List UInt8) (c : UInt8) : (recv L acc c).acc.length ≤ acc.length + 1 ∧ (recv L acc c).acc.length ≤ L := by
  unfold recv
  split
  · exact ⟨Nat.zero_le _, Nat.zero_le _⟩
  · simp [St.acc, St.rd]
    omega
theorem acc_step (s : St) (c : UInt8) : (next L s c).acc.length ≤ s.acc.length + 1 := by
  unfold next
  split
  · exact Nat.zero_le _
  · rcases st_cases s with rfl | ⟨acc, rfl⟩ | ⟨acc, rfl⟩ | rfl
    · exact Nat.zero_le _
    · show (if c = 125 then St.rd true acc else recv L acc c).acc.length ≤ acc.length + 1
      split
      · show acc.length ≤ _
        omega
      · exact (acc_recv acc c).1
    · exact (acc_recv acc _).1
    · exact Nat.zero_le _
theorem acc_le (s : St) (c : UInt8) (h : s.acc.length ≤ L) : (next L s c).acc.length ≤ L := by
  unfold next
  split
  · exact Nat.zero_le _
  · rcases st_cases s with rfl | ⟨acc, rfl⟩ | ⟨acc, rfl⟩ | rfl
    · exact Nat.zero_le _
    · show (if c = 125 then St.rd true acc else recv L acc c).acc.length ≤ L
      split
      · exact h
      · exact (acc_recv acc c).2
    · exact (acc_recv acc _).2
    · exact Nat.zero_le _
/-- one octet of many -/
theorem told_at {s : St} {l : List UInt8} {k : Nat} (hk : k < l.length) {acc r : List (List UInt8)} (h : acc ++ told L wide s (l.drop k) = r) : (acc ++ good wide s l[k]) ++ told L wide (next L s l[k]) (l.drop (k + 1)) = r := by
  rw [List.drop_eq_getElem_cons hk] at h
  rw [List.append_assoc]
  exact h
theorem told_end {s : St} {l : List UInt8} {k : Nat} (hk : l.length ≤ k) {acc r : List (List UInt8)} (h : acc ++ told L wide s (l.drop k) = r) : acc = r := by
  rw [List.drop_eq_nil_of_le hk] at h
  have : told L wide s [] = [] := by unfold told; rfl
  rw [this, List.append_nil] at h
  exact h
end
end Go.Proofs.Ytnogdlekijpdhaa.Fra

/- A ring of the reference in memory: its fields and its pieces; NewRing, Len, Dropped, Clear. No condition. -/
import Derived.Test.YtpjhehfhpeclhaaRngTake
import Derived.Test.YtpjhehfhpeclhaaRngEnd
import Derived.Test.YtpjhehfhpeclhaaPipThree
import Derived.Deep.LoopGhost
namespace Go.Proofs.Ytpjhehfhpeclhaa
open Go.RowKit
set_option linter.unusedVariables false

theorem etRow : ET 35 28 (.slice none 0 0) 24 := ⟨Try.underlying35, by kernel_rfl, rfl, by decide⟩
/-- the value v is a slice of the octets x, in F -/
def Pc (w : World) (F : Nat → Prop) (v : Value) (x : List UInt8) : Prop := ∃ B d, v = .slice B x.length d ∧ Mid w B d x ∧ ∀ k, blk B = some k → F k
/-- the values vs are slices of the pieces l, in F -/
def Pcs (w : World) (F : Nat → Prop) : List Value → List (List UInt8) → Prop
  | [], [] => True
  | v :: vs, x :: l => Pc w F v x ∧ Pcs w F vs l
  | _, _ => False
section
variable {w w' : World} {F G : Nat → Prop} {vs us : List Value} {l m : List (List UInt8)} {v : Value} {x : List UInt8}
theorem Pcs.len : ∀ {vs : List Value} {l : List (List UInt8)}, Pcs w F vs l → vs.length = l.length
  | [], [], _ => rfl
  | _ :: _, _ :: _, h => by simp [Pcs.len h.2]
  | [], _ :: _, h => h.elim
  | _ :: _, [], h => h.elim
theorem Pc.only {H : Nat → Prop} (h : Pc w F v x) (o : Only G w w') (hG : ∀ k, F k → (∃ cur, w.heap[k]? = some (.cells cur 5 (0, 0))) → ¬ G k) (hH : ∀ k, F k → H k) : Pc w' H v x := by
  obtain ⟨B, d, h1, h2, h3⟩ := h
  exact ⟨B, d, h1, h2.only o (fun k hk => hG k (h3 k hk) (h2.type k hk)), fun k hk => hH k (h3 k hk)⟩
theorem Pcs.only {H : Nat → Prop} (o : Only G w w') (hG : ∀ k, F k → (∃ cur, w.heap[k]? = some (.cells cur 5 (0, 0))) → ¬ G k) (hH : ∀ k, F k → H k) : ∀ {vs : List Value} {l : List (List UInt8)}, Pcs w F vs l → Pcs w' H vs l
  | [], [], _ => trivial
  | _ :: _, _ :: _, h => ⟨h.1.only o hG hH, Pcs.only o hG hH h.2⟩
  | [], _ :: _, h => h.elim
  | _ :: _, [], h => h.elim
theorem Pcs.app : ∀ {vs : List Value} {l : List (List UInt8)}, Pcs w F vs l → Pc w F v x → Pcs w F (vs ++ [v]) (l ++ [x])
  | [], [], _, h' => ⟨h', trivial⟩
  | _ :: _, _ :: _, h, h' => ⟨h.1, Pcs.app h.2 h'⟩
  | [], _ :: _, h, _ => h.elim
  | _ :: _, [], h, _ => h.elim
theorem Pcs.take : ∀ {vs : List Value} {l : List (List UInt8)}, Pcs w F vs l → ∀ k, Pcs w F (vs.take k) (l.take k)
  | [], [], _, k => by simp [Pcs]
  | _ :: _, _ :: _, h, 0 => by simp [Pcs]
  | _ :: _, _ :: _, h, k + 1 => ⟨h.1, Pcs.take h.2 k⟩
  | [], _ :: _, h, _ => h.elim
  | _ :: _, [], h, _ => h.elim
theorem Pcs.get : ∀ {vs : List Value} {l : List (List UInt8)}, Pcs w F vs l → ∀ {i : Nat}, i < l.length → ∃ B d, vs[i]? = some (.slice B (l.getD i []).length d)
  | [], [], _, i, hi => by simp at hi
  | _ :: _, _ :: _, h, 0, hi => by
    obtain ⟨B, d, h1, _⟩ := h.1
    exact ⟨B, d, by simp [h1]⟩
  | _ :: _, _ :: _, h, i + 1, hi => by
    obtain ⟨B, d, h1⟩ := Pcs.get h.2 (i := i) (by simpa using hi)
    exact ⟨B, d, by simpa using h1⟩
  | [], _ :: _, h, _, _ => h.elim
  | _ :: _, [], h, _, _ => h.elim
theorem Pcs.cons_inv {y : List UInt8} : ∀ {vs : List Value}, Pcs w F vs (y :: l) → ∃ v us, vs = v :: us ∧ Pc w F v y ∧ Pcs w F us l
  | [], h => h.elim
  | v :: us, h => ⟨v, us, rfl, h.1, h.2⟩
end
/-- the cells of a ring of the reference -/
def qc (R : Nat) (A : Option Addr) (m c : Nat) (beg : Bool) (D : Nat) : Array Value := #[.int .i64 (R : Int), .slice A m c, .bool beg, .int .i64 (D : Int)]
/-- The block b holds a ring of the reference with these fields; it, its row and its pieces lie in F. -/
def RawR (w : World) (F : Nat → Prop) (b R : Nat) (l : List (List UInt8)) (beg : Bool) (D : Nat) : Prop :=
  ∃ A c vs, w.heap[b]? = some (.cells (qc R A l.length c beg D) 44 (0, 0)) ∧ MidV 28 w A c vs ∧ Pcs w F vs l ∧ F b ∧ (∀ k, blk A = some k → F k) ∧ ∀ k, F k → k < w.heap.size
def PX (w : World) (F : Nat → Prop) (b : Nat) (s : Rng) : Prop := RawR w F b s.R s.l s.beg s.D ∧ s.Ok
def TurnR (F : Nat → Prop) (b : Nat) (s : Rng) (w w' : World) : Prop := PX w' (more F w w') b s ∧ Only F w w'
section
variable {w w' : World} {F G : Nat → Prop} {b R D : Nat} {l : List (List UInt8)} {beg : Bool} {s : Rng} {A : Option Addr} {m c : Nat}
theorem qcell (h : w.heap[b]? = some (.cells (qc R A m c beg D) 44 (0, 0))) :
    w.cell? ⟨b, 0, none⟩ = some (.int .i64 (R : Int)) ∧ w.cell? ⟨b, 1, none⟩ = some (.slice A m c) ∧ w.cell? ⟨b, 2, none⟩ = some (.bool beg) ∧ w.cell? ⟨b, 3, none⟩ = some (.int .i64 (D : Int)) := by
  refine ⟨?_, ?_, ?_, ?_⟩ <;> rw [cell_of_row w b _ _ _ (0, 0) h] <;> rfl
theorem RawR.lt (h : RawR w F b R l beg D) : ∀ k, F k → k < w.heap.size := by obtain ⟨_, _, _, _, _, _, _, _, h⟩ := h; exact h
theorem RawR.only (h : RawR w F b R l beg D) (on : Only G w w') (hd : ∀ k, F k → ¬ G k) : RawR w' F b R l beg D := by
  obtain ⟨A, c, vs, h1, h2, h3, h4, h5, h6⟩ := h
  exact ⟨A, c, vs, (on.block b (h6 b h4) (hd b h4)).trans h1, h2.only on (fun k hk => hd k (h5 k hk)), Pcs.only on (fun k hk _ => hd k hk) (fun _ h => h) h3, h4, h5, fun k hk => Nat.lt_of_lt_of_le (h6 k hk) on.size⟩
theorem RawR.drewN (h : RawR w F b R l beg D) (n : Nat) : RawR (w.drewN n) F b R l beg D :=
  h.only (G := fun _ => False) ⟨rfl, rfl, rfl, Nat.le_refl _, fun _ _ _ => rfl⟩ (fun _ _ h => h)
theorem RawR.more (h : RawR w' F b R l beg D) (hlt : ∀ k, F k → k < w.heap.size) (hs : w.heap.size ≤ w'.heap.size) : RawR w' (more F w w') b R l beg D := by
  obtain ⟨A, c, vs, h1, h2, h3, h4, h5, h6⟩ := h
  exact ⟨A, c, vs, h1, h2, Pcs.only (G := fun _ => False) (Only.refl _ _) (fun _ _ _ h => h) (fun _ h => .inl h) h3, .inl h4, fun k hk => .inl (h5 k hk), more_lt hlt hs⟩
theorem PX.ok (h : PX w F b s) : s.Ok := h.2
theorem PX.lt (h : PX w F b s) : ∀ k, F k → k < w.heap.size := h.1.lt
theorem PX.only (h : PX w F b s) (on : Only G w w') (hd : ∀ k, F k → ¬ G k) : PX w' F b s := ⟨h.1.only on hd, h.2⟩
theorem TurnR.of_same (h : PX w' F b s) (on : Only F w w') (hlt : ∀ k, F k → k < w.heap.size) : TurnR F b s w w' := ⟨⟨h.1.more hlt on.size, h.2⟩, on⟩
theorem TurnR.refl (h : PX w F b s) : TurnR F b s w w := .of_same h (Only.refl _ _) h.lt
theorem TurnR.from_drewN {n : Nat} (h : TurnR F b s (w.drewN n) w') : TurnR F b s w w' := ⟨h.1, ⟨h.2.os, h.2.tape, h.2.output, h.2.size, h.2.block⟩⟩
theorem TurnR.drewN (h : TurnR F b s w w') (n : Nat) : TurnR F b s w (w'.drewN n) := ⟨⟨h.1.1.drewN n, h.1.2⟩, ⟨h.2.os, h.2.tape, h.2.output, h.2.size, h.2.block⟩⟩
/-- its row and its pieces do not lie in its own block -/
theorem row_apart (hb : w.heap[b]? = some (.cells (qc R A m c beg D) 44 (0, 0))) {A' : Option Addr} {c' : Nat} {vs : List Value} (hA : MidV 28 w A' c' vs) : blk A' ≠ some b := fun e => by
  obtain ⟨cur, h⟩ := hA.type b e
  exact types_apart (by decide) h hb
theorem pcs_apart (hb : w.heap[b]? = some (.cells (qc R A m c beg D) 44 (0, 0))) : ∀ k, F k → (∃ cur, w.heap[k]? = some (.cells cur 5 (0, 0))) → ¬ k = b := fun k _ h e => by
  obtain ⟨cur, h⟩ := h
  rw [e] at h
  exact types_apart (by decide) h hb
theorem pcs_row {vs : List Value} (hA : MidV 28 w A c vs) : ∀ k, F k → (∃ cur, w.heap[k]? = some (.cells cur 5 (0, 0))) → ¬ blk A = some k := fun k _ h e => by
  obtain ⟨cur, h⟩ := h
  obtain ⟨cur', h'⟩ := hA.type k e
  exact types_apart (by decide) h h'
/-- the count has turned -/
theorem RawR.setD (h : RawR w F b R l beg D) (D' : Nat) : w.frozen? ⟨b, 3, none⟩ = false ∧ RawR (w.setCell ⟨b, 3, none⟩ (.int .i64 (D' : Int))) F b R l beg D' ∧ Only F w (w.setCell ⟨b, 3, none⟩ (.int .i64 (D' : Int))) := by
  obtain ⟨A, c, vs, h1, h2, h3, h4, h5, h6⟩ := h
  have on := only_set w ⟨b, 3, none⟩ (.int .i64 (D' : Int))
  exact ⟨frozen_of_row w b 3 _ _ h1, ⟨A, c, vs, heap_setCell_same w b 3 _ _ _ h1, h2.only on (fun k hk e => row_apart h1 h2 (by rw [hk, e])), Pcs.only on (pcs_apart h1) (fun _ h => h) h3, h4, h5, fun k hk => Nat.lt_of_lt_of_le (h6 k hk) on.size⟩, on.mono (fun k _ e => by rw [e]; exact h4)⟩
/-- whether it was begun has turned -/
theorem RawR.setB (h : RawR w F b R l beg D) (beg' : Bool) : w.frozen? ⟨b, 2, none⟩ = false ∧ RawR (w.setCell ⟨b, 2, none⟩ (.bool beg')) F b R l beg' D ∧ Only F w (w.setCell ⟨b, 2, none⟩ (.bool beg')) := by
  obtain ⟨A, c, vs, h1, h2, h3, h4, h5, h6⟩ := h
  have on := only_set w ⟨b, 2, none⟩ (.bool beg')
  exact ⟨frozen_of_row w b 2 _ _ h1, ⟨A, c, vs, heap_setCell_same w b 2 _ _ _ h1, h2.only on (fun k hk e => row_apart h1 h2 (by rw [hk, e])), Pcs.only on (pcs_apart h1) (fun _ h => h) h3, h4, h5, fun k hk => Nat.lt_of_lt_of_le (h6 k hk) on.size⟩, on.mono (fun k _ e => by rw [e]; exact h4)⟩
/-- the row has become another one -/
theorem rawR_setL {l' : List (List UInt8)} {A' : Option Addr} {c' : Nat} {vs' : List Value} (h1 : w.heap[b]? = some (.cells (qc R A m c beg D) 44 (0, 0))) (h4 : F b) (hlt : ∀ k, F k → k < w.heap.size)
    (hA : MidV 28 w A' c' vs') (hF : ∀ k, blk A' = some k → F k) (hP : Pcs w F vs' l') : w.frozen? ⟨b, 1, none⟩ = false ∧ RawR (w.setCell ⟨b, 1, none⟩ (.slice A' l'.length c')) F b R l' beg D ∧ Only F w (w.setCell ⟨b, 1, none⟩ (.slice A' l'.length c')) := by
  have on := only_set w ⟨b, 1, none⟩ (.slice A' l'.length c')
  exact ⟨frozen_of_row w b 1 _ _ h1, ⟨A', c', vs', heap_setCell_same w b 1 _ _ _ h1, hA.only on (fun k hk e => row_apart h1 hA (by rw [hk, e])), Pcs.only on (pcs_apart h1) (fun _ h => h) hP, h4, hF, fun k hk => Nat.lt_of_lt_of_le (hlt k hk) on.size⟩, on.mono (fun k _ e => by rw [e]; exact h4)⟩
theorem PX.fresh (w : World) (room : Int) : PX (w.alloc (.cells (qc (newRng room).R none 0 0 false 0) 44)) (fun k => k = w.heap.size) w.heap.size (newRng room) :=
  ⟨⟨none, 0, [], heap_alloc_new w _, MidV.nil _ _, trivial, rfl, fun k hk => by simp [blk] at hk, fun k hk => by simp; omega⟩, newRng_ok room⟩
end
theorem cutR_calls (n a b : Int) (hab : a ≤ b) (w : World) : Calls Try.prog 20 #[.int .i64 n, .int .i64 a, .int .i64 b] w fun e w' => e = .returned (.int .i64 (min (max n a) b)) ∧ w' = w := by
  have hn : n < a ∨ (a ≤ n ∧ b < n) ∨ (a ≤ n ∧ n ≤ b) := by omega
  have hc := Lib.hid (show (n < a → min (max n a) b = a) ∧ (a ≤ n → b < n → min (max n a) b = b) ∧ (a ≤ n → n ≤ b → min (max n a) b = n) by omega)
  rcases hn with hn | ⟨hn, hn'⟩ | ⟨hn, hn'⟩
  all_goals
    go_enter Try.func20, Try.ntmps20
    go_wp2
    go_ret
    refine ⟨?_, rfl⟩
    first
    | (rw [hc.out.1 hn]; rfl)
    | (rw [hc.out.2.1 hn hn']; rfl)
    | (rw [hc.out.2.2 hn hn']; rfl)
theorem newR_calls (room : Int) (w : World) : Calls Try.prog 9 #[.int .i64 room] w fun e w' => e = .returned (.pointer (some ⟨w.heap.size, 0, none⟩)) ∧ w.alloc (.cells (qc (newRng room).R none 0 0 false 0) 44) = w' := by
  have ct := cutR_calls room 0 1048576 (by decide) w
  rw [newRng_R room] at ct
  unfold qc
  go_enter Try.func9, Try.ntmps9
  go_wp2_with fail
  refine ct.mono ?_
  rintro e w' ⟨rfl, rfl⟩
  go_wp2
  go_ret
  exact ⟨rfl, rfl⟩
theorem flat_take_next {l : List (List UInt8)} {i : Nat} (h : i < l.length) : (l.take (i + 1)).flatten.length = (l.take i).flatten.length + (l.getD i []).length := by
  rw [take_next h, List.flatten_append, List.length_append, List.flatten_cons, List.flatten_nil, List.append_nil]
theorem flat_take_le (l : List (List UInt8)) (i : Nat) : (l.take i).flatten.length ≤ l.flatten.length := by
  have h : (l.take i).flatten ++ (l.drop i).flatten = l.flatten := by rw [← List.flatten_append, List.take_append_drop]
  have := congrArg List.length h
  rw [List.length_append] at this
  omega
section
variable {w : World} {F : Nat → Prop} {b R D : Nat} {l : List (List UInt8)} {beg : Bool} {s : Rng}
set_option maxHeartbeats 400000 in
theorem lenR_calls (h : RawR w F b R l beg D) (hl : l.flatten.length ≤ 1048576) (hn : l.length ≤ 1048576) : Calls Try.prog 17 #[.pointer (some ⟨b, 0, none⟩)] w fun e w' => e = .returned (.int .i64 (l.flatten.length : Int)) ∧ w' = w := by
  obtain ⟨A, c, vs, h1, h2, h3, _⟩ := h
  have c1 := (qcell h1).2.1
  have H2 := Lib.hid (And.intro h2 h3)
  have hcap : c ≤ 9223372036854775807 := by have := h2.2.1; unfold maxLen at this; omega
  obtain ⟨len, hlen⟩ : ∃ len, len = l.length := ⟨_, rfl⟩
  rw [← hlen] at c1 hn
  have HL := Lib.hid hlen
  obtain ⟨T, hT⟩ : ∃ T, T = l.flatten.length := ⟨_, rfl⟩
  rw [← hT] at hl ⊢
  have HT := Lib.hid hT
  clear h1 h2 h3 hlen hT
  go_enter Try.func17, Try.ntmps17
  go_wp2_with fail
  go_loopg [3, 4] len (fun kx s3 s4 wr => ∃ (i m : Nat), s3 = .int .i64 (m : Int) ∧ s4 = .int .i64 i ∧ i ≤ len ∧ len - i ≤ kx ∧ m ≤ 1048576 ∧ w = wr ∧ Aside (m = (l.take i).flatten.length))
  case atStart => exact ⟨0, 0, rfl, rfl, by omega, by omega, by omega, rfl, rfl⟩
  case round =>
    obtain ⟨i, m, rfl, rfl, hil, hkx, hm, rfl, HM⟩ := hrel
    by_cases hlt : i < len
    · have hltz : (i : Int) < (len : Int) := by omega
      have hlt' : i < l.length := by rw [← HL.out]; exact hlt
      obtain ⟨B, d, hv⟩ := H2.out.2.get hlt'
      obtain ⟨g, off, rfl, k0⟩ := H2.out.1.at_ hv
      have HN : Aside (m + (l.getD i []).length = (l.take (i + 1)).flatten.length) := by
        have h1 := flat_take_next hlt'
        have h2 := HM.out
        show m + (l.getD i []).length = (l.take (i + 1)).flatten.length
        omega
      have hN2 : m + (l.getD i []).length ≤ 1048576 := by have h1 := HN.out; have h2 := flat_take_le l (i + 1); have h3 := HT.out; omega
      generalize (l.getD i []).length = y at *
      clear hv HM hlt'
      go_wp2
      go_roundg (len - (i + 1))
      case measure => omega
      case rel => exact ⟨i + 1, m + y, by go_num, by go_num, by omega, Nat.le_refl _, hN2, rfl, HN⟩
    · have hltz : ¬ (i : Int) < (len : Int) := by omega
      have e1 : l.take i = l := List.take_of_length_le (by rw [← HL.out]; omega)
      have e2 : T = m := by rw [HM.out, e1, HT.out]
      have HE := Lib.hid e2
      clear HM e1 e2 H2
      go_wp2
      go_ret
      exact ⟨congrArg (fun q : Nat => Ending.returned (.int .i64 (q : Int))) HE.out.symm, rfl⟩
theorem PX.lens (h : PX w F b s) : s.l.flatten.length ≤ 1048576 ∧ s.l.length ≤ 1048576 := by
  have h1 := h.2.1
  have h2 := h.2.2.1
  have h3 := Rng.lens_le s.l h.2.2.2.2.1
  have h4 : s.o.length = s.l.flatten.length := rfl
  omega
theorem droppedR_calls (h : PX w F b s) : Calls Try.prog 19 #[.pointer (some ⟨b, 0, none⟩)] w fun e w' => e = .returned (.int .i64 (s.D : Int)) ∧ w' = w := by
  obtain ⟨⟨A, c, vs, hb, _⟩, _⟩ := h
  have c3 := (qcell hb).2.2.2
  clear hb
  generalize s.D = m at *
  go_enter Try.func19, Try.ntmps19
  go_wp2
  go_ret
  exact ⟨rfl, rfl⟩
set_option maxHeartbeats 400000 in
theorem clearR_calls (h : PX w F b s) : Calls Try.prog 15 #[.pointer (some ⟨b, 0, none⟩)] w fun e w' => e = .returned (.int .i64 (s.gone : Int)) ∧ TurnR F b s.clear w w' := by
  obtain ⟨hl1, hl2⟩ := h.lens
  have L1 := lenR_calls h.1 hl1 hl2
  have okC := h.2.clear
  have hgc := Rng.gone_clear s
  have hlt := h.lt
  obtain ⟨⟨A, c, vs, h1, h2, h3, h4, h5, h6⟩, ok⟩ := h
  obtain ⟨c0, c1, c2, c3⟩ := qcell h1
  have hcap : c ≤ 9223372036854775807 := by have := h2.2.1; unfold maxLen at this; omega
  have hlc : s.l.length ≤ c := by have := h2.1; have := h3.len; omega
  cases hb : s.beg
  · rw [hb] at c2
    have hcl : s.clear.l = [] := by unfold Rng.clear; rw [hb]; rfl
    obtain ⟨z1, raw, on⟩ := rawR_setL (F := F) (l' := []) (vs' := []) (A' := none) (c' := 0) h1 h4 h6 (MidV.nil _ _) (fun k hk => by simp [blk] at hk) trivial
    have L2 := lenR_calls raw (by simp) (by simp)
    have FI := Lib.hid (show TurnR F b s.clear w (w.setCell ⟨b, 1, none⟩ (.slice none 0 0)) from TurnR.of_same ⟨by rw [hcl]; exact raw, okC⟩ on hlt)
    have hg : (s.l.flatten.length : Int) - 0 = (s.gone : Int) := by
      have h0 : s.clear.o.length = 0 := by unfold Rng.o; rw [hcl]; rfl
      have h4 : s.o.length = s.l.flatten.length := rfl
      omega
    rw [List.flatten_nil, List.length_nil] at L2
    have hg' : s.l.flatten.length = s.gone := by omega
    rw [hg'] at L1 hl1
    clear h1 h2 h3 h4 h5 h6 ok hb raw on hcl okC hgc hlt hg hg' c0 c3
    generalize s.gone = k at *
    go_enter Try.func15, Try.ntmps15
    go_wp2_with fail
    refine L1.mono ?_
    rintro e w' ⟨rfl, rfl⟩
    go_wp2_with fail
    refine L2.mono ?_
    rintro e w' ⟨rfl, rfl⟩
    go_wp2
    go_ret
    exact ⟨rfl, FI.out⟩
  · rw [hb] at c2
    have hcl : s.clear.l = s.l.take 1 := by unfold Rng.clear; rw [hb]; rfl
    have hne := ok.2.2.2.2 hb
    have hpos := List.length_pos_iff.2 hne
    have hlen1 : (s.l.take 1).length = 1 := by rw [List.length_take]; omega
    obtain ⟨z1, raw, on⟩ := rawR_setL (F := F) (l' := s.l.take 1) h1 h4 h6 (h2.front 1) h5 (h3.take 1)
    have hcb : s.clear.beg = true := hb
    have hfl := flat_take_le s.l 1
    have L2 := lenR_calls raw (by omega) (by omega)
    have FI := Lib.hid (show TurnR F b s.clear w (w.setCell ⟨b, 1, none⟩ (.slice A 1 c)) from TurnR.of_same ⟨by rw [hcl]; rw [hlen1] at raw; exact raw, okC⟩ (by rw [hlen1] at on; exact on) hlt)
    rw [hlen1] at L2
    have hg : (s.l.flatten.length : Int) - ((s.l.take 1).flatten.length : Int) = (s.gone : Int) := by
      have h0 : s.clear.o.length = (s.l.take 1).flatten.length := by unfold Rng.o; rw [hcl]
      have h4 : s.o.length = s.l.flatten.length := rfl
      omega
    have hc1 : (1 : Int) ≤ (c : Int) := by omega
    clear h1 h2 h3 h4 h5 h6 ok hb raw on hcl okC hgc hlt c0 c3 hcb hne
    generalize s.gone = k at *
    generalize (s.l.take 1).flatten.length = y at *
    generalize s.l.flatten.length = x at *
    generalize s.l.length = n at *
    go_enter Try.func15, Try.ntmps15
    go_wp2_with fail
    refine L1.mono ?_
    rintro e w' ⟨rfl, rfl⟩
    go_wp2_with fail
    refine L2.mono ?_
    rintro e w' ⟨rfl, rfl⟩
    go_wp2
    go_ret
    exact ⟨rfl, FI.out⟩
end
end Go.Proofs.Ytpjhehfhpeclhaa

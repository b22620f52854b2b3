/- What a call leaves alone where several things of the caller's own live side by side: all blocks but those of a set; append onto an own row, with where its result lies; rows of strings. No condition. -/
import Derived.Test.YtnogdlekijpdhaaBytesNew
import Derived.OneCell
namespace Go.Proofs.Ytnogdlekijpdhaa
open Go.RowKit
set_option linter.unusedVariables false

/-- the block that a slice leads to -/
def blk (A : Option Addr) : Option Nat := A.map Addr.block
/-- Of the blocks that were there only those of F may have turned. -/
structure Only (F : Nat → Prop) (w w' : World) : Prop where
  os : w'.os = w.os
  tape : w'.tape = w.tape
  output : w'.output = w.output
  size : w.heap.size ≤ w'.heap.size
  block : ∀ k, k < w.heap.size → ¬ F k → w'.heap[k]? = w.heap[k]?

section
variable {F G : Nat → Prop} {a w w' : World}
theorem Only.refl (F : Nat → Prop) (w : World) : Only F w w := ⟨rfl, rfl, rfl, Nat.le_refl _, fun _ _ _ => rfl⟩
theorem Only.trans (h : Only F a w) (k : Only G w w') (hg : ∀ i, i < a.heap.size → G i → F i) : Only F a w' :=
  ⟨k.os.trans h.os, k.tape.trans h.tape, k.output.trans h.output, Nat.le_trans h.size k.size, fun i hi hF => (k.block i (Nat.lt_of_lt_of_le hi h.size) (fun hG => hF (hg i hi hG))).trans (h.block i hi hF)⟩
theorem Only.of_below (F : Nat → Prop) (h : Below w.heap.size w w') : Only F w w' := ⟨h.os, h.tape, h.output, h.size, fun k hk _ => h.block k hk⟩
theorem Only.below {B : Nat} (h : Only F w w') (hF : ∀ k, F k → B ≤ k) (hB : B ≤ w.heap.size) : Below B w w' :=
  ⟨h.os, h.tape, h.output, h.size, fun k hk => h.block k (by omega) (fun hf => by have := hF k hf; omega)⟩
theorem Only.grown {row : Option Nat} (h : w.grownBy w' row) (hr : ∀ k, row = some k → F k) : Only F w w' :=
  ⟨h.os, h.tape, h.output, h.size, fun k hk hF => h.block k hk (fun e => hF (hr k e.symm))⟩
theorem Only.setCell (h : Only F a w) {p : Addr} (hp : F p.block ∨ a.heap.size ≤ p.block) (u : Value) : Only F a (w.setCell p u) :=
  ⟨h.os, h.tape, h.output, by simpa [World.setCell] using h.size, fun k hk hF => (Below.heap_setCell _ _ _ _ (by rintro rfl; rcases hp with hp | hp; exact hF hp; omega)).trans (h.block k hk hF)⟩
theorem Only.alloc (h : Only F a w) (o : Obj) : Only F a (w.alloc o) :=
  ⟨h.os, h.tape, h.output, by have := h.size; simp; omega, fun k hk hF => (Below.heap_alloc _ _ _ (by have := h.size; omega)).trans (h.block k hk hF)⟩
theorem Only.mono (h : Only F w w') (hg : ∀ i, i < w.heap.size → F i → G i) : Only G w w' := ⟨h.os, h.tape, h.output, h.size, fun k hk hG => h.block k hk (fun hF => hG (hg k hk hF))⟩
end

theorem Rd.only {F : Nat → Prop} {w w' : World} {A : Option Addr} {l : List UInt8} (h : Rd w A l) (o : Only F w w') (hF : ∀ k, blk A = some k → ¬ F k) : Rd w' A l := fun hl => by
  obtain ⟨b, off, e, hc⟩ := h hl
  refine ⟨b, off, e, fun j hj => ?_⟩
  have hb := World.block_lt_of_cell? w _ (hc j hj)
  rw [← hc j hj]
  exact World.cell?_of_block (w := w) (o.block b hb (hF b (by rw [e]; rfl)))
theorem ownsRow_only {F : Nat → Prop} {w w' : World} {base : Nat} {e : TypeId} {size : Nat} {A : Option Addr} {n c m : Nat} {xs : List Value} (h : w.ownsRow base e size (.slice A n c) m xs) (o : Only F w w') (hF : ∀ k, blk A = some k → ¬ F k) : w'.ownsRow base e size (.slice A n c) m xs := by
  refine ⟨h.1, ?_⟩
  rcases h.2 with h2 | ⟨g, cap, cur, hv, hb, hh, r⟩
  · exact .inl h2
  · refine .inr ⟨g, cap, cur, hv, hb, ?_, r⟩
    injection hv with hA
    rw [o.block g (Array.getElem?_eq_some_iff.1 hh).1 (hF g (by rw [hA]; rfl))]
    exact hh
theorem Own.only {F : Nat → Prop} {w w' : World} {base : Nat} {A : Option Addr} {c : Nat} {l : List UInt8} (h : Own w base A c l) (o : Only F w w') (hF : ∀ k, blk A = some k → ¬ F k) : Own w' base A c l := ownsRow_only h o hF
theorem Own.blk_ge {w : World} {base : Nat} {A : Option Addr} {c : Nat} {l : List UInt8} (h : Own w base A c l) : ∀ k, blk A = some k → base ≤ k ∧ k < w.heap.size := by
  intro k hk
  rcases h.2 with ⟨hv, _⟩ | ⟨g, cap, cur, hv, hb, hh, _⟩
  · injection hv with hA
    subst hA
    cases hk
  · injection hv with hA
    subst hA
    injection hk with hk
    have hk' : g = k := hk
    subst hk'
    exact ⟨hb, (Array.getElem?_eq_some_iff.1 hh).1⟩

/-- append onto a row of the call's own: what it leaves alone, and where its result lies -/
theorem app_kin (w : World) (base : Nat) (t e : TypeId) (i : TypeInfo) (z : Value) (bytes : Nat) (ht : Try.prog.underlying t = some (.slice e)) (hi : Try.prog.info? e = some i) (hz : i.zero = some z)
    (hsize : i.size = 1) (hby : i.bytes = bytes) (hzs : z.cells.size = 1)
    (A : Option Addr) (c n : Nat) (xs : List Value) (hown : w.ownsRow base e 1 (.slice A n c) n xs)
    (a : Addr) (m c' : Nat) (news : List Value) (hl : news.length = m) (hnews : ∀ j u, news[j]? = some u → w.cell? (a.add j) = some u) (h1 : ∀ u ∈ news, u.oneCell' = true)
    (h63 : n + m ≤ maxLen) (hbytes : (n + m) * bytes ≤ 140737488355328) (hbase : base ≤ w.heap.size) (hm : 0 < m) :
    ∃ A' d w', (∀ ty, (Builtin.append_ #[t, t] ty #[.slice A n c, .slice (some a) m c']).run Try.prog w = .ok (.slice A' (n + m) d) w') ∧ w'.ownsRow base e 1 (.slice A' (n + m) d) (n + m) (xs ++ news) ∧
      Only (fun k => blk A = some k) w w' ∧ ∀ k, blk A' = some k → blk A = some k ∨ w.heap.size ≤ k := by
  have key : ∀ b0, w.ownsRow b0 e 1 (.slice A n c) n xs → b0 ≤ w.heap.size → ∃ v' w', (∀ ty, (Builtin.append_ #[t, t] ty #[.slice A n c, .slice (some a) m c']).run Try.prog w = .ok v' w') ∧ w'.ownsRow b0 e 1 v' (n + m) (xs ++ news) ∧ w.grownBy w' (Value.slice A n c).ownBlock := by
    intro b0 ho hb0
    obtain ⟨v', w', h1, h2, h3, _⟩ := run_append_own (P := Try.prog) w b0 t 0 e i z 1 bytes ht hi hz hsize hby hzs (by decide) _ _ _ ho a m c' news (by omega) hnews h1 h63 hbytes hb0
    exact ⟨v', w', fun ty => h1, h2, h3⟩
  have sl : ∀ {b0 : Nat} {v' : Value} {w' : World}, w'.ownsRow b0 e 1 v' (n + m) (xs ++ news) → ∃ g d, v' = .slice (some ⟨g, 0, none⟩) (n + m) d ∧ b0 ≤ g := by
    intro b0 v' w' h
    rcases h.2 with ⟨rfl, h0⟩ | ⟨g, cap, cur, rfl, hb, _⟩
    · omega
    · exact ⟨g, cap, rfl, hb⟩
  rcases hown.2 with ⟨hv, h0⟩ | ⟨g, cap, cur, hv, hbg, hg, hnc, hcm, hcs, htake⟩
  · injection hv with hA hn hc
    subst hA
    obtain ⟨v', w', r, o, gr⟩ := key w.heap.size (by
      have : xs = [] := List.eq_nil_of_length_eq_zero (by have := hown.1; omega)
      subst this
      subst h0
      rw [hc]
      exact World.ownsRow_nil _ _ _ _) (Nat.le_refl _)
    obtain ⟨g, d, rfl, hge⟩ := sl o
    refine ⟨_, d, w', r, ⟨o.1, ?_⟩, Only.grown gr (fun k hk => by simp [Value.ownBlock] at hk), fun k hk => .inr ?_⟩
    · rcases o.2 with h | ⟨g', cap, cur, h1, h2, h3⟩
      · exact .inl h
      · exact .inr ⟨g', cap, cur, h1, Nat.le_trans hbase h2, h3⟩
    · injection hk with hk
      have hk' : g = k := hk
      omega
  · injection hv with hA hn hc
    subst hA
    subst hc
    obtain ⟨v', w', r, o, gr⟩ := key base hown hbase
    obtain ⟨g', d, rfl, hge⟩ := sl o
    refine ⟨_, d, w', r, o, Only.grown gr (fun k hk => hk), fun k hk => ?_⟩
    injection hk with hk
    have hk' : g' = k := hk
    subst hk'
    by_cases hroom : n + m ≤ c
    · have hr := run_append_room (P := Try.prog) w t 0 e i ht hi g n c cur hg a m c' news (by rw [hsize]; omega) hnews h1 hroom (by rw [hsize]; omega)
      rw [r 0] at hr
      injection hr with hr
      injection hr with hr
      injection hr with hr
      injection hr with hr
      left
      rw [hr]
      rfl
    · have holds : ∀ j u, xs[j]? = some u → w.cell? ((⟨g, 0, none⟩ : Addr).add j) = some u := hown.cells (g := g) rfl
      have hr := run_append_grow (P := Try.prog) w t 0 e i z ht hi hz ⟨g, 0, none⟩ n c xs (by rw [hsize]; exact hown.1) holds a m c' news (by rw [hsize]; omega) hnews (by omega) (by unfold maxLen at h63; omega) (growslice_fits (by omega) (by rw [hby]; exact hbytes))
      rw [r 0] at hr
      injection hr with hr
      injection hr with hr
      injection hr with hr
      injection hr with hr
      right
      omega

/-- one new row of bytes, appended onto a row of the call's own -/
theorem app_only (w : World) (base : Nat) (A : Option Addr) (c : Nat) (xs m : List UInt8) (hown : Own w base A c xs) (hbase : base ≤ w.heap.size) (hby : xs.length + m.length ≤ 140737488355328) (hm : 0 < m.length) :
    ∃ A' c' w', (∀ ty, (Builtin.append_ #[22, 22] ty #[.slice A xs.length c, .slice (some ⟨w.heap.size, 0, none⟩) m.length m.length]).run Try.prog (laid w m) = .ok (.slice A' (xs ++ m).length c') w') ∧ Own w' base A' c' (xs ++ m) ∧
      Only (fun k => blk A = some k) w w' ∧ ∀ k, blk A' = some k → blk A = some k ∨ w.heap.size ≤ k := by
  obtain ⟨i0, hi, hz0, hz1, hz2⟩ := info_parts info8
  obtain ⟨A', d, w', r, o, on, kin⟩ := app_kin (laid w m) base 22 5 i0 _ 1 Try.underlying22 hi hz0 hz1 hz2 rfl A c xs.length (xs.map bv) (hown.alloc _) ⟨w.heap.size, 0, none⟩ m.length m.length (m.map bv) (by simp)
    (fun j u hu => by
      rw [Go.WideShapes.add_plain, Nat.zero_add, cell_of_row _ _ j _ _ (0, 0) (laid_block w m)]
      simpa using hu)
    (fun u hu => by obtain ⟨x, _, rfl⟩ := List.mem_map.mp hu; rfl) (by unfold maxLen; omega) (by omega) (by rw [laid_size]; omega) hm
  refine ⟨A', d, w', fun ty => by rw [r ty]; simp, ?_, (Only.of_below _ (laid_below w m)).trans on (fun _ _ h => h), fun k hk => ?_⟩
  · unfold Own
    simpa using o
  · rcases kin k hk with h | h
    · exact .inl h
    · rw [laid_size] at h
      exact .inr (by omega)

/-- whatever bytes, appended onto a row of the call's own -/
theorem app_src (w : World) (base : Nat) (A : Option Addr) (c : Nat) (xs : List UInt8) (hown : Own w base A c xs) (C : Option Addr) (d : Nat) (m : List UInt8) (hr : Rd w C m) (hbase : base ≤ w.heap.size) (hby : xs.length + m.length ≤ 140737488355328) (hm : 0 < m.length) :
    ∃ A' c' w', (∀ ty, (Builtin.append_ #[22, 22] ty #[.slice A xs.length c, .slice C m.length d]).run Try.prog w = .ok (.slice A' (xs ++ m).length c') w') ∧ Own w' base A' c' (xs ++ m) ∧
      Only (fun k => blk A = some k) w w' ∧ ∀ k, blk A' = some k → blk A = some k ∨ w.heap.size ≤ k := by
  obtain ⟨i0, hi, hz0, hz1, hz2⟩ := info_parts info8
  obtain ⟨b, off, rfl, hc⟩ := hr (by intro e; rw [e] at hm; simp at hm)
  obtain ⟨A', d', w', r, o, on, kin⟩ := app_kin w base 22 5 i0 _ 1 Try.underlying22 hi hz0 hz1 hz2 rfl A c xs.length (xs.map bv) hown ⟨b, off, none⟩ m.length d (m.map bv) (by simp)
    (fun j u hu => by
      have hj : j < m.length := by
        rcases Nat.lt_or_ge j m.length with h | h
        · exact h
        · rw [List.getElem?_eq_none (by simpa using h)] at hu; cases hu
      rw [Go.WideShapes.add_plain, hc j hj]
      simp [List.getElem?_eq_getElem hj] at hu
      simp [hj, hu])
    (fun u hu => by obtain ⟨x, _, rfl⟩ := List.mem_map.mp hu; rfl) (by unfold maxLen; omega) (by omega) hbase hm
  refine ⟨A', d', w', fun ty => by rw [r ty]; simp, ?_, on, kin⟩
  unfold Own
  simpa using o

/- rows of strings -/
theorem infoS : (Try.prog.info? 9).map (fun i => (i.zero, i.size, i.bytes)) = some (some (.string ByteArray.empty), 1, 16) := by kernel_rfl
/-- the slice owns the strings ss, in a block from base on -/
def SOwn (w : World) (base : Nat) (A : Option Addr) (c : Nat) (ss : List (List UInt8)) : Prop := w.ownsRow base 9 1 (.slice A ss.length c) ss.length (ss.map strV)
theorem SOwn.nil (w : World) (base : Nat) : SOwn w base none 0 [] := World.ownsRow_nil _ _ _ _
theorem SOwn.only {F : Nat → Prop} {w w' : World} {base : Nat} {A : Option Addr} {c : Nat} {l : List (List UInt8)} (h : SOwn w base A c l) (o : Only F w w') (hF : ∀ k, blk A = some k → ¬ F k) : SOwn w' base A c l := ownsRow_only h o hF
theorem SOwn.blk_ge {w : World} {base : Nat} {A : Option Addr} {c : Nat} {l : List (List UInt8)} (h : SOwn w base A c l) : ∀ k, blk A = some k → base ≤ k ∧ k < w.heap.size := by
  intro k hk
  rcases h.2 with ⟨hv, _⟩ | ⟨g, cap, cur, hv, hb, hh, _⟩
  · injection hv with hA
    subst hA
    cases hk
  · injection hv with hA
    subst hA
    injection hk with hk
    have hk' : g = k := hk
    subst hk'
    exact ⟨hb, (Array.getElem?_eq_some_iff.1 hh).1⟩
theorem SOwn.below {w w' : World} {base : Nat} {A : Option Addr} {c : Nat} {l : List (List UInt8)} (h : SOwn w base A c l) (b : Below w.heap.size w w') : SOwn w' base A c l := h.only (F := fun _ => False) (Only.of_below _ b) (fun _ _ h => h)
theorem Own.below {w w' : World} {base : Nat} {A : Option Addr} {c : Nat} {l : List UInt8} (h : Own w base A c l) (b : Below w.heap.size w w') : Own w' base A c l := h.only (F := fun _ => False) (Only.of_below _ b) (fun _ _ h => h)
theorem SOwn.mono {w : World} {b b' : Nat} {A : Option Addr} {c : Nat} {l : List (List UInt8)} (h : SOwn w b A c l) (hb : b' ≤ b) : SOwn w b' A c l := by
  refine ⟨h.1, ?_⟩
  rcases h.2 with h0 | ⟨g, cap, cur, h1, h2, h3⟩
  · exact .inl h0
  · exact .inr ⟨g, cap, cur, h1, Nat.le_trans hb h2, h3⟩
/-- a string of it -/
theorem SOwn.at_ {w : World} {base : Nat} {A : Option Addr} {c : Nat} {ss : List (List UInt8)} (h : SOwn w base A c ss) {j : Nat} (hj : j < ss.length) : ∃ g, A = some ⟨g, 0, none⟩ ∧ base ≤ g ∧ g < w.heap.size ∧ w.cell? ⟨g, j, none⟩ = some (strV (ss.getD j [])) := by
  rcases h.2 with ⟨_, h0⟩ | ⟨g, cap, cur, hv, hb, hh, _⟩
  · omega
  injection hv with hA _ hc
  subst hA hc
  refine ⟨g, rfl, hb, (Array.getElem?_eq_some_iff.1 hh).1, ?_⟩
  rw [World.ownsRow.cellAt h j (by omega)]
  simp [List.getElem?_eq_getElem hj]
/-- the world with one new row of one string -/
def laidS (w : World) (s : List UInt8) : World := w.alloc (.cells #[strV s] 9)
theorem laidS_below (w : World) (s : List UInt8) : Below w.heap.size w (laidS w s) := (Below.refl _ _).alloc (Nat.le_refl _) _
theorem laidS_size (w : World) (s : List UInt8) : (laidS w s).heap.size = w.heap.size + 1 := by unfold laidS; simp
theorem appS_only (w : World) (base : Nat) (A : Option Addr) (c : Nat) (ss : List (List UInt8)) (s : List UInt8) (hown : SOwn w base A c ss) (hbase : base ≤ w.heap.size) (hby : ss.length ≤ 1048576) :
    ∃ A' c' w', (∀ ty, (Builtin.append_ #[35, 35] ty #[.slice A ss.length c, .slice (some ⟨w.heap.size, 0, none⟩) 1 1]).run Try.prog (laidS w s) = .ok (.slice A' (ss ++ [s]).length c') w') ∧ SOwn w' base A' c' (ss ++ [s]) ∧
      Only (fun k => blk A = some k) w w' ∧ ∀ k, blk A' = some k → blk A = some k ∨ w.heap.size ≤ k := by
  obtain ⟨i0, hi, hz0, hz1, hz2⟩ := info_parts infoS
  obtain ⟨A', d, w', r, o, on, kin⟩ := app_kin (laidS w s) base 35 9 i0 _ 16 Try.underlying35 hi hz0 hz1 hz2 rfl A c ss.length (ss.map strV) (World.ownsRow.alloc hown _) ⟨w.heap.size, 0, none⟩ 1 1 [strV s] rfl
    (fun j u hu => by
      unfold laidS
      rw [Go.WideShapes.add_plain, Nat.zero_add, cell_of_row _ _ j _ _ (0, 0) (heap_alloc_new w _)]
      simpa using hu)
    (fun u hu => by simp at hu; subst hu; rfl) (by unfold maxLen; omega) (by omega) (by rw [laidS_size]; omega) (by decide)
  refine ⟨A', d, w', fun ty => by rw [r ty]; simp, ?_, (Only.of_below _ (laidS_below w s)).trans on (fun _ _ h => h), fun k hk => ?_⟩
  · unfold SOwn
    simpa using o
  · rcases kin k hk with h | h
    · exact .inl h
    · rw [laidS_size] at h
      exact .inr (by omega)
end Go.Proofs.Ytnogdlekijpdhaa

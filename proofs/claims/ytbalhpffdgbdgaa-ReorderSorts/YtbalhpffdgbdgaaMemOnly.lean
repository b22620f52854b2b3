/- What a call leaves alone where several things of the caller's own live side by side: all blocks but those of a set; append onto an own row, with where its result lies. No condition. -/
import Derived.Test.YtbalhpffdgbdgaaBytesRd
import Derived.Below
import Derived.OneCell
import Derived.Lib.AppendZeros
import Derived.Lib.AppendZerosOnto
namespace Go.Proofs.Ytbalhpffdgbdgaa
open Go.RowKit
set_option linter.unusedVariables false

/-- the block that a slice leads to -/
def blk (A : Option Addr) : Option Nat := A.map Addr.block
/-- Of the blocks that were there only those of F may have turned. -/
structure Only (F : Nat → Prop) (w w' : World) : Prop where
  os : w'.os = w.os
  tape : w'.tape = w.tape
  output : w'.output = w.output
  size : w.heap.size ≤ w'.heap.size
  block : ∀ k, k < w.heap.size → ¬ F k → w'.heap[k]? = w.heap[k]?

section
variable {F G : Nat → Prop} {a w w' : World}
theorem Only.refl (F : Nat → Prop) (w : World) : Only F w w := ⟨rfl, rfl, rfl, Nat.le_refl _, fun _ _ _ => rfl⟩
theorem Only.trans (h : Only F a w) (k : Only G w w') (hg : ∀ i, i < a.heap.size → G i → F i) : Only F a w' :=
  ⟨k.os.trans h.os, k.tape.trans h.tape, k.output.trans h.output, Nat.le_trans h.size k.size, fun i hi hF => (k.block i (Nat.lt_of_lt_of_le hi h.size) (fun hG => hF (hg i hi hG))).trans (h.block i hi hF)⟩
theorem Only.of_below (F : Nat → Prop) (h : Below w.heap.size w w') : Only F w w' := ⟨h.os, h.tape, h.output, h.size, fun k hk _ => h.block k hk⟩
theorem Only.below {B : Nat} (h : Only F w w') (hF : ∀ k, F k → B ≤ k) (hB : B ≤ w.heap.size) : Below B w w' :=
  ⟨h.os, h.tape, h.output, h.size, fun k hk => h.block k (by omega) (fun hf => by have := hF k hf; omega)⟩
theorem Only.grown {row : Option Nat} (h : w.grownBy w' row) (hr : ∀ k, row = some k → F k) : Only F w w' :=
  ⟨h.os, h.tape, h.output, h.size, fun k hk hF => h.block k hk (fun e => hF (hr k e.symm))⟩
theorem Only.setCell (h : Only F a w) {p : Addr} (hp : F p.block ∨ a.heap.size ≤ p.block) (u : Value) : Only F a (w.setCell p u) :=
  ⟨h.os, h.tape, h.output, by simpa [World.setCell] using h.size, fun k hk hF => (Below.heap_setCell _ _ _ _ (by rintro rfl; rcases hp with hp | hp; exact hF hp; omega)).trans (h.block k hk hF)⟩
theorem Only.alloc (h : Only F a w) (o : Obj) : Only F a (w.alloc o) :=
  ⟨h.os, h.tape, h.output, by have := h.size; simp; omega, fun k hk hF => (Below.heap_alloc _ _ _ (by have := h.size; omega)).trans (h.block k hk hF)⟩
theorem Only.mono (h : Only F w w') (hg : ∀ i, i < w.heap.size → F i → G i) : Only G w w' := ⟨h.os, h.tape, h.output, h.size, fun k hk hG => h.block k hk (fun hF => hG (hg k hk hF))⟩
end

theorem ownsRow_only {F : Nat → Prop} {w w' : World} {base : Nat} {e : TypeId} {size : Nat} {A : Option Addr} {n c m : Nat} {xs : List Value} (h : w.ownsRow base e size (.slice A n c) m xs) (o : Only F w w') (hF : ∀ k, blk A = some k → ¬ F k) : w'.ownsRow base e size (.slice A n c) m xs := by
  refine ⟨h.1, ?_⟩
  rcases h.2 with h2 | ⟨g, cap, cur, hv, hb, hh, r⟩
  · exact .inl h2
  · refine .inr ⟨g, cap, cur, hv, hb, ?_, r⟩
    injection hv with hA
    rw [o.block g (Array.getElem?_eq_some_iff.1 hh).1 (hF g (by rw [hA]; rfl))]
    exact hh
/-- append onto a row of the call's own: what it leaves alone, and where its result lies -/
theorem app_kin (w : World) (base : Nat) (t e : TypeId) (i : TypeInfo) (z : Value) (bytes : Nat) (ht : Try.prog.underlying t = some (.slice e)) (hi : Try.prog.info? e = some i) (hz : i.zero = some z)
    (hsize : i.size = 1) (hby : i.bytes = bytes) (hzs : z.cells.size = 1)
    (A : Option Addr) (c n : Nat) (xs : List Value) (hown : w.ownsRow base e 1 (.slice A n c) n xs)
    (a : Addr) (m c' : Nat) (news : List Value) (hl : news.length = m) (hnews : ∀ j u, news[j]? = some u → w.cell? (a.add j) = some u) (h1 : ∀ u ∈ news, u.oneCell' = true)
    (h63 : n + m ≤ maxLen) (hbytes : (n + m) * bytes ≤ 140737488355328) (hbase : base ≤ w.heap.size) (hm : 0 < m) :
    ∃ A' d w', (∀ ty, (Builtin.append_ #[t, t] ty #[.slice A n c, .slice (some a) m c']).run Try.prog w = .ok (.slice A' (n + m) d) w') ∧ w'.ownsRow base e 1 (.slice A' (n + m) d) (n + m) (xs ++ news) ∧
      Only (fun k => blk A = some k) w w' ∧ ∀ k, blk A' = some k → blk A = some k ∨ w.heap.size ≤ k := by
  have key : ∀ b0, w.ownsRow b0 e 1 (.slice A n c) n xs → b0 ≤ w.heap.size → ∃ v' w', (∀ ty, (Builtin.append_ #[t, t] ty #[.slice A n c, .slice (some a) m c']).run Try.prog w = .ok v' w') ∧ w'.ownsRow b0 e 1 v' (n + m) (xs ++ news) ∧ w.grownBy w' (Value.slice A n c).ownBlock := by
    intro b0 ho hb0
    obtain ⟨v', w', h1, h2, h3, _⟩ := run_append_own (P := Try.prog) w b0 t 0 e i z 1 bytes ht hi hz hsize hby hzs (by decide) _ _ _ ho a m c' news (by omega) hnews h1 h63 hbytes hb0
    exact ⟨v', w', fun ty => h1, h2, h3⟩
  have sl : ∀ {b0 : Nat} {v' : Value} {w' : World}, w'.ownsRow b0 e 1 v' (n + m) (xs ++ news) → ∃ g d, v' = .slice (some ⟨g, 0, none⟩) (n + m) d ∧ b0 ≤ g := by
    intro b0 v' w' h
    rcases h.2 with ⟨rfl, h0⟩ | ⟨g, cap, cur, rfl, hb, _⟩
    · omega
    · exact ⟨g, cap, rfl, hb⟩
  rcases hown.2 with ⟨hv, h0⟩ | ⟨g, cap, cur, hv, hbg, hg, hnc, hcm, hcs, htake⟩
  · injection hv with hA hn hc
    subst hA
    obtain ⟨v', w', r, o, gr⟩ := key w.heap.size (by
      have : xs = [] := List.eq_nil_of_length_eq_zero (by have := hown.1; omega)
      subst this
      subst h0
      rw [hc]
      exact World.ownsRow_nil _ _ _ _) (Nat.le_refl _)
    obtain ⟨g, d, rfl, hge⟩ := sl o
    refine ⟨_, d, w', r, ⟨o.1, ?_⟩, Only.grown gr (fun k hk => by simp [Value.ownBlock] at hk), fun k hk => .inr ?_⟩
    · rcases o.2 with h | ⟨g', cap, cur, h1, h2, h3⟩
      · exact .inl h
      · exact .inr ⟨g', cap, cur, h1, Nat.le_trans hbase h2, h3⟩
    · injection hk with hk
      have hk' : g = k := hk
      omega
  · injection hv with hA hn hc
    subst hA
    subst hc
    obtain ⟨v', w', r, o, gr⟩ := key base hown hbase
    obtain ⟨g', d, rfl, hge⟩ := sl o
    refine ⟨_, d, w', r, o, Only.grown gr (fun k hk => hk), fun k hk => ?_⟩
    injection hk with hk
    have hk' : g' = k := hk
    subst hk'
    by_cases hroom : n + m ≤ c
    · have hr := run_append_room (P := Try.prog) w t 0 e i ht hi g n c cur hg a m c' news (by rw [hsize]; omega) hnews h1 hroom (by rw [hsize]; omega)
      rw [r 0] at hr
      injection hr with hr
      injection hr with hr
      injection hr with hr
      injection hr with hr
      left
      rw [hr]
      rfl
    · have holds : ∀ j u, xs[j]? = some u → w.cell? ((⟨g, 0, none⟩ : Addr).add j) = some u := hown.cells (g := g) rfl
      have hr := run_append_grow (P := Try.prog) w t 0 e i z ht hi hz ⟨g, 0, none⟩ n c xs (by rw [hsize]; exact hown.1) holds a m c' news (by rw [hsize]; omega) hnews (by omega) (by unfold maxLen at h63; omega) (growslice_fits (by omega) (by rw [hby]; exact hbytes))
      rw [r 0] at hr
      injection hr with hr
      injection hr with hr
      injection hr with hr
      injection hr with hr
      right
      omega
/-- F, and what is new -/
def more (F : Nat → Prop) (w w' : World) : Nat → Prop := fun k => F k ∨ (w.heap.size ≤ k ∧ k < w'.heap.size)
end Go.Proofs.Ytbalhpffdgbdgaa

/- Package arq walked, part 2 of 15 (merged texts: BytesNew, MemOnly, BytesKin, BytesSet, PipPlain, PipRow, MidRow, PcRow, ObjMem, CloneOwn). No condition. -/
import Derived.Test.YtgkdabllaankcaaG1
import Derived.Laws.BitsAllLaws
import Derived.Lib.SlBytesConst
import Derived.Lib.ConvBytes
import Derived.Below
import Derived.OneCell
import Derived.Lib.AppendZeros
import Derived.Lib.AppendZerosOnto
import Derived.Laws.MakeOwn
import Derived.Deep.AppendSrc
import Derived.Deep.MidRow
import Derived.Laws.NewBlocks
/- A new row of bytes, plain or as a constant string's conversion leaves it; what a call that makes bytes gives; a byte's bits. No condition. -/
namespace Go.Proofs.Ytgkdabllaankcaa
open Go.RowKit
set_option linter.unusedVariables false

/-- the world with one new row of bytes -/
def laid (w : World) (l : List UInt8) : World := w.alloc (.cells (l.map bv).toArray 5)
theorem laid_below (w : World) (l : List UInt8) : Below w.heap.size w (laid w l) := (Below.refl _ _).alloc (Nat.le_refl _) _
theorem laid_size (w : World) (l : List UInt8) : (laid w l).heap.size = w.heap.size + 1 := by unfold laid; simp
theorem laid_block (w : World) (l : List UInt8) : (laid w l).heap[w.heap.size]? = some (.cells (l.map bv).toArray 5 (0, 0)) := heap_alloc_new w _
theorem laid_rd (w : World) (l : List UInt8) : Rd (laid w l) (some ⟨w.heap.size, 0, none⟩) l := fun _ => ⟨_, _, rfl, fun j hj => by
  rw [Nat.zero_add, cell_of_row _ _ j _ _ (0, 0) (laid_block w l)]
  simp [List.getElem?_eq_getElem hj]⟩
theorem laid_own (w : World) (l : List UInt8) (hl : l.length ≤ 1048576) : Own (laid w l) w.heap.size (some ⟨w.heap.size, 0, none⟩) l.length l :=
  ⟨by simp, .inr ⟨_, _, _, rfl, Nat.le_refl _, laid_block w l, Nat.le_refl _, by unfold maxLen; omega, by simp, by simp [List.take_of_length_le]⟩⟩
/-- the world with one new row of bytes, as a constant string's conversion leaves it: marked -/
def laidM (w : World) (l : List UInt8) : World := w.alloc (.cells (l.map bv).toArray 5 (l.length, l.length + 1))
theorem laidM_below (w : World) (l : List UInt8) : Below w.heap.size w (laidM w l) := (Below.refl _ _).alloc (Nat.le_refl _) _
theorem laidM_size (w : World) (l : List UInt8) : (laidM w l).heap.size = w.heap.size + 1 := by unfold laidM; simp
theorem laidM_rd (w : World) (l : List UInt8) : Rd (laidM w l) (some ⟨w.heap.size, 0, none⟩) l := fun _ => ⟨_, _, rfl, fun j hj => by
  unfold laidM
  rw [Nat.zero_add, cell_of_row _ _ j _ _ (l.length, l.length + 1) (heap_alloc_new w _)]
  simp [List.getElem?_eq_getElem hj]⟩

/- '[]byte(s)' of a string that is no constant -/
theorem bw_below (w : World) (s : ByteArray) : Below w.heap.size w (Lib.bytesWorld w 5 s) :=
  ⟨rfl, rfl, rfl, by rw [Lib.bytesWorld_size]; omega, fun k hk => Lib.bytesWorld_at_old w 5 s k hk⟩
theorem bw_rd (w : World) (l : List UInt8) : Rd (Lib.bytesWorld w 5 ⟨l.toArray⟩) (some ⟨w.heap.size, 0, none⟩) l := fun _ => ⟨_, _, rfl, fun j hj => by
  rw [Nat.zero_add, Lib.bytesWorld_cell w 5 ⟨l.toArray⟩ j (by simpa [ByteArray.size] using hj)]
  rfl⟩
theorem run_bytes (v : World) (x : List UInt8) : (convert 9 39 (.string ⟨x.toArray⟩)).run Try.prog v = .ok (.slice (some ⟨v.heap.size, 0, none⟩) x.length (grownCap v x.length 0 5)) (Lib.bytesWorld v 5 ⟨x.toArray⟩) :=
  Lib.run_convert_string_bytes (P := Try.prog) v 9 39 5 ⟨x.toArray⟩ Try.underlying9 Try.underlying39 Try.underlying5

/-- The call returns a slice that reads as l; nothing that was there has turned. -/
def Gives (l : List UInt8) (w : World) (e : Ending) (w' : World) : Prop :=
  ∃ A c, e = .returned (.slice A l.length c) ∧ Rd w' A l ∧ Below w.heap.size w w'
/-- The call returns a slice that reads as r.1, and the number r.2; nothing that was there has turned. -/
def Gives2 (r : List UInt8 × Int) (w : World) (e : Ending) (w' : World) : Prop :=
  ∃ A c, e = .returned (.tuple #[.slice A r.1.length c, .int .i64 r.2]) ∧ Rd w' A r.1 ∧ Below w.heap.size w w'

/-- The call returns a new row of the bytes l; nothing that was there has turned. -/
def GivesOwn (l : List UInt8) (w : World) (e : Ending) (w' : World) : Prop :=
  ∃ A c, e = .returned (.slice A l.length c) ∧ Own w' w.heap.size A c l ∧ Below w.heap.size w w'
theorem gives2_bad {r : List UInt8 × Int} {n : Int} {w w' : World} (h : r = ([], n)) (hb : Below w.heap.size w w') : Gives2 r w (.returned (.tuple #[.slice none 0 0, .int .i64 n])) w' :=
  ⟨none, 0, by rw [h]; rfl, by rw [h]; exact Rd.nil _ _, hb⟩
theorem gives2_good {r : List UInt8 × Int} {acc : List UInt8} {A : Option Addr} {c : Nat} {w w' : World} (h : r = (acc, 0)) (hr : Rd w' A acc) (hb : Below w.heap.size w w') : Gives2 r w (.returned (.tuple #[.slice A acc.length c, .int .i64 0])) w' :=
  ⟨A, c, by rw [h], by rw [h]; exact hr, hb⟩

/-- As Gives2; and what is returned lies in new memory. -/
def Gives2Own (r : List UInt8 × Int) (w : World) (e : Ending) (w' : World) : Prop :=
  ∃ A c, e = .returned (.tuple #[.slice A r.1.length c, .int .i64 r.2]) ∧ Own w' w.heap.size A c r.1 ∧ Below w.heap.size w w'
theorem Gives2Own.gives {r : List UInt8 × Int} {w : World} {e : Ending} {w' : World} (h : Gives2Own r w e w') : Gives2 r w e w' := by
  obtain ⟨A, c, h1, h2, h3⟩ := h
  exact ⟨A, c, h1, h2.rd, h3⟩
theorem GivesOwn.gives {l : List UInt8} {w : World} {e : Ending} {w' : World} (h : GivesOwn l w e w') : Gives l w e w' := by
  obtain ⟨A, c, h1, h2, h3⟩ := h
  exact ⟨A, c, h1, h2.rd, h3⟩
theorem own2_bad {r : List UInt8 × Int} {n : Int} {w w' : World} (h : r = ([], n)) (hb : Below w.heap.size w w') : Gives2Own r w (.returned (.tuple #[.slice none 0 0, .int .i64 n])) w' :=
  ⟨none, 0, by rw [h]; rfl, by rw [h]; exact Own.nil _ _, hb⟩
theorem own2_good {r : List UInt8 × Int} {acc : List UInt8} {A : Option Addr} {c : Nat} {w w' : World} (h : r = (acc, 0)) (hr : Own w' w.heap.size A c acc) (hb : Below w.heap.size w w') : Gives2Own r w (.returned (.tuple #[.slice A acc.length c, .int .i64 0])) w' :=
  ⟨A, c, by rw [h], by rw [h]; exact hr, hb⟩

/-- one new row of the bytes m, appended onto a row of the call's own: all that a walk wants, ahead of it -/
theorem app_new (w : World) (base : Nat) (A : Option Addr) (c : Nat) (xs m : List UInt8) (hown : Own w base A c xs) (hbase : base ≤ w.heap.size) (hby : xs.length + m.length ≤ 140737488355328) :
    ∃ A' c' w', (∀ ty, (Builtin.append_ #[39, 39] ty #[.slice A xs.length c, .slice (some ⟨w.heap.size, 0, none⟩) m.length m.length]).run Try.prog (laid w m) = .ok (.slice A' (xs ++ m).length c') w') ∧ Own w' base A' c' (xs ++ m) ∧ Below base w w' := by
  obtain ⟨A', c', w', h1, h2, h3⟩ := run_app (laid w m) base A c xs (hown.alloc _) (some ⟨w.heap.size, 0, none⟩) m.length m (laid_rd w m) hby (by rw [laid_size]; omega)
  exact ⟨A', c', w', h1, h2, ((laid_below w m).mono hbase).trans h3⟩

theorem u8_xor_byte (c d : UInt8) : bits .xor .u8 (c.toNat : Int) (d.toNat : Int) = ((c ^^^ d).toNat : Int) := by
  have h1 : c.toNat < 256 := c.toNat_lt
  have h2 : d.toNat < 256 := d.toNat_lt
  rw [u8_xor_nat _ _ (by omega) (by omega)]
  simp
theorem byte_ne {c d : UInt8} (h : c ≠ d) : ((c.toNat : Int) == (d.toNat : Int)) = false := by
  exact beq_eq_false_iff_ne.mpr (fun e => h (UInt8.toNat_inj.mp (by omega)))
theorem byte_eq {c d : UInt8} (h : c = d) : ((c.toNat : Int) == (d.toNat : Int)) = true := by rw [h]; simp
end Go.Proofs.Ytgkdabllaankcaa
/- What a call leaves alone where several things of the caller's own live side by side: all blocks but those of a set; append onto an own row, with where its result lies. No condition. -/
namespace Go.Proofs.Ytgkdabllaankcaa
open Go.RowKit
set_option linter.unusedVariables false

/-- the block that a slice leads to -/
def blk (A : Option Addr) : Option Nat := A.map Addr.block
/-- Of the blocks that were there only those of F may have turned. -/
structure Only (F : Nat → Prop) (w w' : World) : Prop where
  os : w'.os = w.os
  tape : w'.tape = w.tape
  output : w'.output = w.output
  size : w.heap.size ≤ w'.heap.size
  block : ∀ k, k < w.heap.size → ¬ F k → w'.heap[k]? = w.heap[k]?

section
variable {F G : Nat → Prop} {a w w' : World}
theorem Only.refl (F : Nat → Prop) (w : World) : Only F w w := ⟨rfl, rfl, rfl, Nat.le_refl _, fun _ _ _ => rfl⟩
theorem Only.trans (h : Only F a w) (k : Only G w w') (hg : ∀ i, i < a.heap.size → G i → F i) : Only F a w' :=
  ⟨k.os.trans h.os, k.tape.trans h.tape, k.output.trans h.output, Nat.le_trans h.size k.size, fun i hi hF => (k.block i (Nat.lt_of_lt_of_le hi h.size) (fun hG => hF (hg i hi hG))).trans (h.block i hi hF)⟩
theorem Only.of_below (F : Nat → Prop) (h : Below w.heap.size w w') : Only F w w' := ⟨h.os, h.tape, h.output, h.size, fun k hk _ => h.block k hk⟩
theorem Only.below {B : Nat} (h : Only F w w') (hF : ∀ k, F k → B ≤ k) (hB : B ≤ w.heap.size) : Below B w w' :=
  ⟨h.os, h.tape, h.output, h.size, fun k hk => h.block k (by omega) (fun hf => by have := hF k hf; omega)⟩
theorem Only.grown {row : Option Nat} (h : w.grownBy w' row) (hr : ∀ k, row = some k → F k) : Only F w w' :=
  ⟨h.os, h.tape, h.output, h.size, fun k hk hF => h.block k hk (fun e => hF (hr k e.symm))⟩
theorem Only.setCell (h : Only F a w) {p : Addr} (hp : F p.block ∨ a.heap.size ≤ p.block) (u : Value) : Only F a (w.setCell p u) :=
  ⟨h.os, h.tape, h.output, by simpa [World.setCell] using h.size, fun k hk hF => (Below.heap_setCell _ _ _ _ (by rintro rfl; rcases hp with hp | hp; exact hF hp; omega)).trans (h.block k hk hF)⟩
theorem Only.alloc (h : Only F a w) (o : Obj) : Only F a (w.alloc o) :=
  ⟨h.os, h.tape, h.output, by have := h.size; simp; omega, fun k hk hF => (Below.heap_alloc _ _ _ (by have := h.size; omega)).trans (h.block k hk hF)⟩
theorem Only.mono (h : Only F w w') (hg : ∀ i, i < w.heap.size → F i → G i) : Only G w w' := ⟨h.os, h.tape, h.output, h.size, fun k hk hG => h.block k hk (fun hF => hG (hg k hk hF))⟩
end

theorem ownsRow_only {F : Nat → Prop} {w w' : World} {base : Nat} {e : TypeId} {size : Nat} {A : Option Addr} {n c m : Nat} {xs : List Value} (h : w.ownsRow base e size (.slice A n c) m xs) (o : Only F w w') (hF : ∀ k, blk A = some k → ¬ F k) : w'.ownsRow base e size (.slice A n c) m xs := by
  refine ⟨h.1, ?_⟩
  rcases h.2 with h2 | ⟨g, cap, cur, hv, hb, hh, r⟩
  · exact .inl h2
  · refine .inr ⟨g, cap, cur, hv, hb, ?_, r⟩
    injection hv with hA
    rw [o.block g (Array.getElem?_eq_some_iff.1 hh).1 (hF g (by rw [hA]; rfl))]
    exact hh
/-- append onto a row of the call's own: what it leaves alone, and where its result lies -/
theorem app_kin (w : World) (base : Nat) (t e : TypeId) (i : TypeInfo) (z : Value) (bytes : Nat) (ht : Try.prog.underlying t = some (.slice e)) (hi : Try.prog.info? e = some i) (hz : i.zero = some z)
    (hsize : i.size = 1) (hby : i.bytes = bytes) (hzs : z.cells.size = 1)
    (A : Option Addr) (c n : Nat) (xs : List Value) (hown : w.ownsRow base e 1 (.slice A n c) n xs)
    (a : Addr) (m c' : Nat) (news : List Value) (hl : news.length = m) (hnews : ∀ j u, news[j]? = some u → w.cell? (a.add j) = some u) (h1 : ∀ u ∈ news, u.oneCell' = true)
    (h63 : n + m ≤ maxLen) (hbytes : (n + m) * bytes ≤ 140737488355328) (hbase : base ≤ w.heap.size) (hm : 0 < m) :
    ∃ A' d w', (∀ ty, (Builtin.append_ #[t, t] ty #[.slice A n c, .slice (some a) m c']).run Try.prog w = .ok (.slice A' (n + m) d) w') ∧ w'.ownsRow base e 1 (.slice A' (n + m) d) (n + m) (xs ++ news) ∧
      Only (fun k => blk A = some k) w w' ∧ ∀ k, blk A' = some k → blk A = some k ∨ w.heap.size ≤ k := by
  have key : ∀ b0, w.ownsRow b0 e 1 (.slice A n c) n xs → b0 ≤ w.heap.size → ∃ v' w', (∀ ty, (Builtin.append_ #[t, t] ty #[.slice A n c, .slice (some a) m c']).run Try.prog w = .ok v' w') ∧ w'.ownsRow b0 e 1 v' (n + m) (xs ++ news) ∧ w.grownBy w' (Value.slice A n c).ownBlock := by
    intro b0 ho hb0
    obtain ⟨v', w', h1, h2, h3, _⟩ := run_append_own (P := Try.prog) w b0 t 0 e i z 1 bytes ht hi hz hsize hby hzs (by decide) _ _ _ ho a m c' news (by omega) hnews h1 h63 hbytes hb0
    exact ⟨v', w', fun ty => h1, h2, h3⟩
  have sl : ∀ {b0 : Nat} {v' : Value} {w' : World}, w'.ownsRow b0 e 1 v' (n + m) (xs ++ news) → ∃ g d, v' = .slice (some ⟨g, 0, none⟩) (n + m) d ∧ b0 ≤ g := by
    intro b0 v' w' h
    rcases h.2 with ⟨rfl, h0⟩ | ⟨g, cap, cur, rfl, hb, _⟩
    · omega
    · exact ⟨g, cap, rfl, hb⟩
  rcases hown.2 with ⟨hv, h0⟩ | ⟨g, cap, cur, hv, hbg, hg, hnc, hcm, hcs, htake⟩
  · injection hv with hA hn hc
    subst hA
    obtain ⟨v', w', r, o, gr⟩ := key w.heap.size (by
      have : xs = [] := List.eq_nil_of_length_eq_zero (by have := hown.1; omega)
      subst this
      subst h0
      rw [hc]
      exact World.ownsRow_nil _ _ _ _) (Nat.le_refl _)
    obtain ⟨g, d, rfl, hge⟩ := sl o
    refine ⟨_, d, w', r, ⟨o.1, ?_⟩, Only.grown gr (fun k hk => by simp [Value.ownBlock] at hk), fun k hk => .inr ?_⟩
    · rcases o.2 with h | ⟨g', cap, cur, h1, h2, h3⟩
      · exact .inl h
      · exact .inr ⟨g', cap, cur, h1, Nat.le_trans hbase h2, h3⟩
    · injection hk with hk
      have hk' : g = k := hk
      omega
  · injection hv with hA hn hc
    subst hA
    subst hc
    obtain ⟨v', w', r, o, gr⟩ := key base hown hbase
    obtain ⟨g', d, rfl, hge⟩ := sl o
    refine ⟨_, d, w', r, o, Only.grown gr (fun k hk => hk), fun k hk => ?_⟩
    injection hk with hk
    have hk' : g' = k := hk
    subst hk'
    by_cases hroom : n + m ≤ c
    · have hr := run_append_room (P := Try.prog) w t 0 e i ht hi g n c cur hg a m c' news (by rw [hsize]; omega) hnews h1 hroom (by rw [hsize]; omega)
      rw [r 0] at hr
      injection hr with hr
      injection hr with hr
      injection hr with hr
      injection hr with hr
      left
      rw [hr]
      rfl
    · have holds : ∀ j u, xs[j]? = some u → w.cell? ((⟨g, 0, none⟩ : Addr).add j) = some u := hown.cells (g := g) rfl
      have hr := run_append_grow (P := Try.prog) w t 0 e i z ht hi hz ⟨g, 0, none⟩ n c xs (by rw [hsize]; exact hown.1) holds a m c' news (by rw [hsize]; omega) hnews (by omega) (by unfold maxLen at h63; omega) (growslice_fits (by omega) (by rw [hby]; exact hbytes))
      rw [r 0] at hr
      injection hr with hr
      injection hr with hr
      injection hr with hr
      injection hr with hr
      right
      omega
/-- F, and what is new -/
def more (F : Nat → Prop) (w w' : World) : Nat → Prop := fun k => F k ∨ (w.heap.size ≤ k ∧ k < w'.heap.size)
end Go.Proofs.Ytgkdabllaankcaa
/- What a call leaves alone where several things of the caller's own live side by side: rows of bytes. No condition. -/
namespace Go.Proofs.Ytgkdabllaankcaa
open Go.RowKit
set_option linter.unusedVariables false

theorem Rd.only {F : Nat → Prop} {w w' : World} {A : Option Addr} {l : List UInt8} (h : Rd w A l) (o : Only F w w') (hF : ∀ k, blk A = some k → ¬ F k) : Rd w' A l := fun hl => by
  obtain ⟨b, off, e, hc⟩ := h hl
  refine ⟨b, off, e, fun j hj => ?_⟩
  have hb := World.block_lt_of_cell? w _ (hc j hj)
  rw [← hc j hj]
  exact World.cell?_of_block (w := w) (o.block b hb (hF b (by rw [e]; rfl)))
theorem Own.only {F : Nat → Prop} {w w' : World} {base : Nat} {A : Option Addr} {c : Nat} {l : List UInt8} (h : Own w base A c l) (o : Only F w w') (hF : ∀ k, blk A = some k → ¬ F k) : Own w' base A c l := ownsRow_only h o hF
theorem Own.blk_ge {w : World} {base : Nat} {A : Option Addr} {c : Nat} {l : List UInt8} (h : Own w base A c l) : ∀ k, blk A = some k → base ≤ k ∧ k < w.heap.size := by
  intro k hk
  rcases h.2 with ⟨hv, _⟩ | ⟨g, cap, cur, hv, hb, hh, _⟩
  · injection hv with hA
    subst hA
    cases hk
  · injection hv with hA
    subst hA
    injection hk with hk
    have hk' : g = k := hk
    subst hk'
    exact ⟨hb, (Array.getElem?_eq_some_iff.1 hh).1⟩

/-- one new row of bytes, appended onto a row of the call's own -/
theorem app_only (w : World) (base : Nat) (A : Option Addr) (c : Nat) (xs m : List UInt8) (hown : Own w base A c xs) (hbase : base ≤ w.heap.size) (hby : xs.length + m.length ≤ 140737488355328) (hm : 0 < m.length) :
    ∃ A' c' w', (∀ ty, (Builtin.append_ #[39, 39] ty #[.slice A xs.length c, .slice (some ⟨w.heap.size, 0, none⟩) m.length m.length]).run Try.prog (laid w m) = .ok (.slice A' (xs ++ m).length c') w') ∧ Own w' base A' c' (xs ++ m) ∧
      Only (fun k => blk A = some k) w w' ∧ ∀ k, blk A' = some k → blk A = some k ∨ w.heap.size ≤ k := by
  obtain ⟨i0, hi, hz0, hz1, hz2⟩ := info_parts info8
  obtain ⟨A', d, w', r, o, on, kin⟩ := app_kin (laid w m) base 39 5 i0 _ 1 Try.underlying39 hi hz0 hz1 hz2 rfl A c xs.length (xs.map bv) (hown.alloc _) ⟨w.heap.size, 0, none⟩ m.length m.length (m.map bv) (by simp)
    (fun j u hu => by
      rw [Go.WideShapes.add_plain, Nat.zero_add, cell_of_row _ _ j _ _ (0, 0) (laid_block w m)]
      simpa using hu)
    (fun u hu => by obtain ⟨x, _, rfl⟩ := List.mem_map.mp hu; rfl) (by unfold maxLen; omega) (by omega) (by rw [laid_size]; omega) hm
  refine ⟨A', d, w', fun ty => by rw [r ty]; simp, ?_, (Only.of_below _ (laid_below w m)).trans on (fun _ _ h => h), fun k hk => ?_⟩
  · unfold Own
    simpa using o
  · rcases kin k hk with h | h
    · exact .inl h
    · rw [laid_size] at h
      exact .inr (by omega)

/-- whatever bytes, appended onto a row of the call's own -/
theorem app_src (w : World) (base : Nat) (A : Option Addr) (c : Nat) (xs : List UInt8) (hown : Own w base A c xs) (C : Option Addr) (d : Nat) (m : List UInt8) (hr : Rd w C m) (hbase : base ≤ w.heap.size) (hby : xs.length + m.length ≤ 140737488355328) (hm : 0 < m.length) :
    ∃ A' c' w', (∀ ty, (Builtin.append_ #[39, 39] ty #[.slice A xs.length c, .slice C m.length d]).run Try.prog w = .ok (.slice A' (xs ++ m).length c') w') ∧ Own w' base A' c' (xs ++ m) ∧
      Only (fun k => blk A = some k) w w' ∧ ∀ k, blk A' = some k → blk A = some k ∨ w.heap.size ≤ k := by
  obtain ⟨i0, hi, hz0, hz1, hz2⟩ := info_parts info8
  obtain ⟨b, off, rfl, hc⟩ := hr (by intro e; rw [e] at hm; simp at hm)
  obtain ⟨A', d', w', r, o, on, kin⟩ := app_kin w base 39 5 i0 _ 1 Try.underlying39 hi hz0 hz1 hz2 rfl A c xs.length (xs.map bv) hown ⟨b, off, none⟩ m.length d (m.map bv) (by simp)
    (fun j u hu => by
      have hj : j < m.length := by
        rcases Nat.lt_or_ge j m.length with h | h
        · exact h
        · rw [List.getElem?_eq_none (by simpa using h)] at hu; cases hu
      rw [Go.WideShapes.add_plain, hc j hj]
      simp [List.getElem?_eq_getElem hj] at hu
      simp [hj, hu])
    (fun u hu => by obtain ⟨x, _, rfl⟩ := List.mem_map.mp hu; rfl) (by unfold maxLen; omega) (by omega) hbase hm
  refine ⟨A', d', w', fun ty => by rw [r ty]; simp, ?_, on, kin⟩
  unfold Own
  simpa using o

theorem Own.below {w w' : World} {base : Nat} {A : Option Addr} {c : Nat} {l : List UInt8} (h : Own w base A c l) (b : Below w.heap.size w w') : Own w' base A c l := h.only (F := fun _ => False) (Only.of_below _ b) (fun _ _ h => h)
end Go.Proofs.Ytgkdabllaankcaa
/- A row of the call's own, made in zeros or grown by append, and what a store into it leaves. No condition. -/
namespace Go.Proofs.Ytgkdabllaankcaa
open Go.RowKit
set_option linter.unusedVariables false

/-- the place j of an own row: what is there, that it may be written, and what a store leaves -/
theorem Own.place {w : World} {base : Nat} {A : Option Addr} {c : Nat} {X : List UInt8} (h : Own w base A c X) {j : Nat} (hj : j < X.length) :
    ∃ g, A = some ⟨g, 0, none⟩ ∧ base ≤ g ∧ w.cell? ⟨g, j, none⟩ = some (bv (X.getD j 0)) ∧ w.frozen? ⟨g, j, none⟩ = false ∧ ∀ y, Own (w.setCell ⟨g, j, none⟩ (bv y)) base A c (X.set j y) := by
  rcases h.2 with ⟨_, h0⟩ | ⟨g, cap, cur, hv, hb, _⟩
  · omega
  injection hv with hA _ hc
  subst hA hc
  refine ⟨g, rfl, hb, ?_, World.ownsRow.frozenAt h j, fun y => ?_⟩
  · rw [World.ownsRow.cellAt h j (by omega)]
    simp [List.getElem?_eq_getElem hj]
  · have := (World.ownsRow.stored h j (bv y)).1
    unfold Own
    rw [List.length_set, List.map_set]
    exact this
/-- make([]byte, n): one new row of zeros -/
theorem run_made (n : Nat) (hn : n ≤ 1048576) (W : World) : (Instr.makeSlice 39 (.int .i64 (n : Int)) (.int .i64 (n : Int))).run Try.prog W = .ok (.slice (some ⟨W.heap.size, 0, none⟩) n n) (laid W (List.replicate n 0)) := by
  obtain ⟨i0, hi, hz0, hz1, hz2⟩ := info_parts info8
  have h := run_make (P := Try.prog) W 39 5 i0 _ Try.underlying39 hi hz0 .i64 .i64 n n (by omega) (by omega) (by rw [hz2]; omega) (by omega)
  rw [hz1] at h
  have e : (madeCells #[.int .u8 0] n) = ((List.replicate n (0 : UInt8)).map bv).toArray := by
    apply Array.ext'
    rw [toList_madeCells_one, List.map_replicate]
    rfl
  unfold laid
  rw [← e]
  simpa [Value.cells] using h
theorem made_own (n : Nat) (hn : n ≤ 1048576) (W : World) : Own (laid W (List.replicate n 0)) W.heap.size (some ⟨W.heap.size, 0, none⟩) n (List.replicate n 0) := by
  have := laid_own W (List.replicate n 0) (by simpa using hn)
  rwa [List.length_replicate] at this
end Go.Proofs.Ytgkdabllaankcaa
/- One direction of a line as plain data: octets in their order, room, cut, stalled; put, take and the faults. No condition. -/
namespace Go.Proofs.Ytgkdabllaankcaa
set_option linter.unusedVariables false

/-- a pipe: how many octets it holds at most, those that it holds, whether it is cut, whether it is stalled -/
structure Pip where
  R : Nat
  l : List UInt8
  cut : Bool
  st : Bool

/-- what n counts as among m octets -/
def lim (n : Int) (m : Nat) : Nat := (min (max n 0) (m : Int)).toNat
theorem lim_le (n : Int) (m : Nat) : lim n m ≤ m := by unfold lim; omega
theorem lim_int (n : Int) (m : Nat) : min (max n 0) (m : Int) = (lim n m : Int) := by unfold lim; omega
theorem lim_all {n : Int} {m : Nat} (h : (m : Int) ≤ n) : lim n m = m := by unfold lim; omega
theorem lim_nat {n m : Nat} (h : n ≤ m) : lim (n : Int) m = n := by unfold lim; omega

namespace Pip
/-- as many as fit -/
def fit (s : Pip) (x : List UInt8) : Nat := min x.length (s.R - s.l.length)
def putN (s : Pip) (x : List UInt8) : Nat := bif s.cut then x.length else s.fit x
def put (s : Pip) (x : List UInt8) : Pip := bif s.cut then s else ⟨s.R, s.l ++ x.take (s.fit x), s.cut, s.st⟩
def takeL (s : Pip) (n : Int) : List UInt8 := bif s.st then [] else s.l.take (lim n s.l.length)
def take (s : Pip) (n : Int) : Pip := bif s.st then s else ⟨s.R, s.l.drop (lim n s.l.length), s.cut, s.st⟩
def erase (s : Pip) (n : Int) : Pip := ⟨s.R, s.l.drop (lim n s.l.length), s.cut, s.st⟩
def canWrite (s : Pip) (n : Int) : Bool := decide (0 ≤ n ∧ n < s.l.length)
def write (s : Pip) (n : Int) (c : UInt8) : Pip := bif s.canWrite n then ⟨s.R, s.l.set n.toNat c, s.cut, s.st⟩ else s
def canInsert (s : Pip) (n : Int) : Bool := decide (0 ≤ n ∧ n ≤ s.l.length ∧ s.l.length < s.R)
def insert (s : Pip) (n : Int) (c : UInt8) : Pip := bif s.canInsert n then ⟨s.R, s.l.take n.toNat ++ c :: s.l.drop n.toNat, s.cut, s.st⟩ else s
/-- what a fault answers -/
def faultB (s : Pip) (kind n : Int) : Bool :=
  if kind = 0 ∨ kind = 1 ∨ kind = 2 ∨ kind = 3 then true else if kind = 4 then s.canWrite n else if kind = 5 then s.canInsert n else false
/-- what a fault leaves -/
def fault (s : Pip) (kind n : Int) (c : UInt8) : Pip :=
  if kind = 0 then ⟨s.R, s.l, false, false⟩ else if kind = 1 then ⟨s.R, s.l, true, s.st⟩ else if kind = 2 then ⟨s.R, s.l, s.cut, true⟩ else if kind = 3 then s.erase n else if kind = 4 then s.write n c else if kind = 5 then s.insert n c else s
/-- it holds no more than it may -/
def Ok (s : Pip) : Prop := s.l.length ≤ s.R ∧ s.R ≤ 1048576
theorem Ok.put {s : Pip} (h : s.Ok) (x : List UInt8) : (s.put x).Ok := by
  unfold Pip.put Ok fit at *
  cases s.cut <;> simp <;> omega
theorem Ok.take {s : Pip} (h : s.Ok) (n : Int) : (s.take n).Ok := by
  unfold Pip.take Ok at *
  cases s.st <;> simp <;> omega
theorem Ok.erase {s : Pip} (h : s.Ok) (n : Int) : (s.erase n).Ok := by
  unfold Pip.erase Ok at *
  simp; omega
theorem Ok.write {s : Pip} (h : s.Ok) (n : Int) (c : UInt8) : (s.write n c).Ok := by
  unfold Pip.write Ok at *
  cases s.canWrite n <;> simp <;> omega
theorem Ok.insert {s : Pip} (h : s.Ok) (n : Int) (c : UInt8) : (s.insert n c).Ok := by
  unfold Pip.insert
  cases e : s.canInsert n
  · exact h
  · simp [canInsert] at e
    unfold Ok at *
    simp
    omega
theorem Ok.fault {s : Pip} (h : s.Ok) (kind n : Int) (c : UInt8) : (s.fault kind n c).Ok := by
  unfold Pip.fault
  split
  · exact h
  split
  · exact h
  split
  · exact h
  split
  · exact h.erase n
  split
  · exact h.write n c
  split
  · exact h.insert n c
  · exact h
theorem canWrite_nat (R : Nat) (l : List UInt8) (cu sd : Bool) (j : Nat) : (⟨R, l, cu, sd⟩ : Pip).canWrite (j : Int) = decide (j < l.length) := by
  unfold canWrite
  exact decide_eq_decide.mpr ⟨fun h => by have := h.2; exact Int.ofNat_lt.mp this, fun h => ⟨Int.natCast_nonneg j, Int.ofNat_lt.mpr h⟩⟩
theorem write_no {R : Nat} {l : List UInt8} {cu sd : Bool} {j : Nat} (h : ¬ j < l.length) (y : UInt8) : (⟨R, l, cu, sd⟩ : Pip).write (j : Int) y = ⟨R, l, cu, sd⟩ := by
  unfold write
  rw [canWrite_nat, decide_eq_false h]
  rfl
theorem write_yes {R : Nat} {l : List UInt8} {cu sd : Bool} {j : Nat} (h : j < l.length) (y : UInt8) : (⟨R, l, cu, sd⟩ : Pip).write (j : Int) y = ⟨R, l.set j y, cu, sd⟩ := by
  unfold write
  rw [canWrite_nat, decide_eq_true h]
  rfl
theorem canInsert_nat {R : Nat} {l : List UInt8} (hR : l.length < R) (cu sd : Bool) (j : Nat) : (⟨R, l, cu, sd⟩ : Pip).canInsert (j : Int) = decide (j ≤ l.length) := by
  unfold canInsert
  exact decide_eq_decide.mpr ⟨fun h => by have := h.2.1; exact Int.ofNat_le.mp this, fun h => ⟨Int.natCast_nonneg j, Int.ofNat_le.mpr h, hR⟩⟩
theorem insert_no {R : Nat} {l : List UInt8} (hR : l.length < R) {cu sd : Bool} {j : Nat} (h : ¬ j ≤ l.length) (y : UInt8) : (⟨R, l, cu, sd⟩ : Pip).insert (j : Int) y = ⟨R, l, cu, sd⟩ := by
  unfold insert
  rw [canInsert_nat hR, decide_eq_false h]
  rfl
theorem insert_yes {R : Nat} {l : List UInt8} (hR : l.length < R) {cu sd : Bool} {j : Nat} (h : j ≤ l.length) (y : UInt8) : (⟨R, l, cu, sd⟩ : Pip).insert (j : Int) y = ⟨R, l.take j ++ y :: l.drop j, cu, sd⟩ := by
  unfold insert
  rw [canInsert_nat hR, decide_eq_true h]
  rfl
end Pip
/-- a new pipe -/
def newPip (room : Int) : Pip := ⟨(min (max room 0) 1048576).toNat, [], false, false⟩
theorem newPip_ok (room : Int) : (newPip room).Ok := by unfold newPip Pip.Ok; simp; omega
end Go.Proofs.Ytgkdabllaankcaa
/- A slice of bytes of the call's own that may begin in the middle of its block: append, a store, a cut, what keeps it. No condition. -/
namespace Go.Proofs.Ytgkdabllaankcaa
open Go.RowKit
set_option linter.unusedVariables false

/-- The slice at A, with room for c, holds the bytes l; its block bears no mark. -/
def Mid (w : World) (A : Option Addr) (c : Nat) (l : List UInt8) : Prop :=
  l.length ≤ c ∧ c ≤ maxLen ∧ ((A = none ∧ c = 0) ∨ ∃ g off cur, A = some ⟨g, off, none⟩ ∧ w.heap[g]? = some (.cells cur 5 (0, 0)) ∧ off + c ≤ cur.size ∧ ∀ j, j < l.length → w.cell? ⟨g, off + j, none⟩ = some (bv (l.getD j 0)))
section
variable {w w' : World} {A : Option Addr} {c : Nat} {l : List UInt8}
theorem Mid.nil (w : World) : Mid w none 0 [] := ⟨Nat.le_refl _, by decide, .inl ⟨rfl, rfl⟩⟩
theorem Mid.cap (h : Mid w A c l) : l.length ≤ c ∧ c ≤ maxLen := ⟨h.1, h.2.1⟩
theorem Mid.rd (h : Mid w A c l) : Rd w A l := fun hl => by
  have hp := List.length_pos_iff.mpr hl
  rcases h.2.2 with ⟨_, h0⟩ | ⟨g, off, cur, hA, _, _, hc⟩
  · have := h.1; omega
  · exact ⟨g, off, hA, hc⟩
theorem Mid.only {F : Nat → Prop} (h : Mid w A c l) (o : Only F w w') (hF : ∀ k, blk A = some k → ¬ F k) : Mid w' A c l := by
  refine ⟨h.1, h.2.1, ?_⟩
  rcases h.2.2 with h0 | ⟨g, off, cur, rfl, hg, hs, hc⟩
  · exact .inl h0
  · have hb := o.block g (lt_of_block hg) (hF g rfl)
    exact .inr ⟨g, off, cur, rfl, hb.trans hg, hs, fun j hj => (World.cell?_of_block (w := w) (a := ⟨g, off + j, none⟩) hb).trans (hc j hj)⟩
theorem Mid.drewN (h : Mid w A c l) (n : Nat) : Mid (w.drewN n) A c l := h
theorem Mid.blk_lt (h : Mid w A c l) : ∀ k, blk A = some k → k < w.heap.size := by
  intro k hk
  rcases h.2.2 with ⟨rfl, _⟩ | ⟨g, off, cur, rfl, hg, _⟩
  · cases hk
  · injection hk with hk
    have hk' : g = k := hk
    subst hk'
    exact lt_of_block hg
theorem Mid.of_own {base : Nat} (h : Own w base A c l) : Mid w A c l := by
  refine ⟨h.cap.1, h.cap.2, ?_⟩
  have hr := h.rd
  rcases h.2 with ⟨hv, h0⟩ | ⟨g, cap, cur, hv, hb, hh, hnc, hcm, hcs, hcur⟩
  · injection hv with h1 _ h2
    exact .inl ⟨h1, h2⟩
  · injection hv with h1 _ h2
    subst h1 h2
    refine .inr ⟨g, 0, cur, rfl, hh, by omega, fun j hj => ?_⟩
    obtain ⟨b, off, e, hc⟩ := hr (by rintro rfl; simp at hj)
    injection e with e
    injection e with e1 e2 e3
    subst e1 e2
    exact hc j hj
/-- a cut from k on, as 's[k:]' spells it -/
theorem Mid.rest (h : Mid w A c l) {k : Nat} (hk : k ≤ l.length) (B : Option Addr) (hB : (c = k ∧ B = A) ∨ ∃ g off, A = some ⟨g, off, none⟩ ∧ B = some ⟨g, off + k, none⟩) : Mid w B (c - k) (l.drop k) := by
  refine ⟨by have := h.1; simp; omega, by have := h.2.1; omega, ?_⟩
  rcases hB with ⟨rfl, rfl⟩ | ⟨g, off, rfl, rfl⟩
  · have hl : l.length = c := by have := h.1; omega
    rcases h.2.2 with ⟨h0, h1⟩ | ⟨g, off, cur, rfl, hg, hs, hc⟩
    · exact .inl ⟨h0, by omega⟩
    · exact .inr ⟨g, off, cur, rfl, hg, by omega, fun j hj => by simp at hj; omega⟩
  · rcases h.2.2 with ⟨h0, _⟩ | ⟨g', off', cur, e, hg, hs, hc⟩
    · cases h0
    · injection e with e
      injection e with e1 e2 e3
      subst e1 e2
      have := h.1
      refine .inr ⟨g, off + k, cur, rfl, hg, by omega, fun j hj => ?_⟩
      simp at hj
      rw [Nat.add_assoc, hc (k + j) (by omega)]
      simp
/-- the place j: what is there, that it may be written, and what a store leaves -/
theorem Mid.place (h : Mid w A c l) {j : Nat} (hj : j < l.length) :
    ∃ g off, A = some ⟨g, off, none⟩ ∧ w.cell? ⟨g, off + j, none⟩ = some (bv (l.getD j 0)) ∧ w.frozen? ⟨g, off + j, none⟩ = false ∧ ∀ y, Mid (w.setCell ⟨g, off + j, none⟩ (bv y)) A c (l.set j y) := by
  rcases h.2.2 with ⟨_, h0⟩ | ⟨g, off, cur, rfl, hg, hs, hc⟩
  · have := h.1; omega
  refine ⟨g, off, rfl, hc j hj, frozen_of_row w g _ _ _ hg, fun y => ⟨by simpa using h.1, h.2.1, .inr ⟨g, off, _, rfl, heap_setCell_same w g (off + j) cur _ _ hg, by simpa using hs, fun i hi => ?_⟩⟩⟩
  simp at hi
  by_cases e : j = i
  · subst e
    rw [World.cell?_setCell_same w ⟨g, off + j, none⟩ _ (hc j hj)]
    simp [hi]
  · rw [World.cell?_setCell_other _ _ _ _ (by intro h; injection h with _ h; omega), hc i hi]
    simp [e]
end

theorem Only.setCells (w : World) (g : Nat) : ∀ (vs : List Value) (o : Nat), Only (fun k => k = g) w (w.setCells g o vs) := by
  intro vs
  induction vs generalizing w with
  | nil => exact fun o => Only.refl _ _
  | cons v r ih => exact fun o => ((Only.refl (fun k => k = g) w).setCell (p := ⟨g, o, none⟩) (.inl rfl) v).trans (ih (w.setCell ⟨g, o, none⟩ v) (o + 1)) (fun _ _ h => h)
theorem setCells_block (g : Nat) (t : TypeId) : ∀ (vs : List Value) (o : Nat) (w : World) (cur : Array Value), w.heap[g]? = some (.cells cur t (0, 0)) → ∃ cur', (w.setCells g o vs).heap[g]? = some (.cells cur' t (0, 0)) ∧ cur'.size = cur.size := by
  intro vs
  induction vs with
  | nil => exact fun o w cur h => ⟨cur, h, rfl⟩
  | cons v r ih =>
    intro o w cur h
    obtain ⟨c', h1, h2⟩ := ih (o + 1) (w.setCell ⟨g, o, none⟩ v) _ (heap_setCell_same w g o cur t v h)
    exact ⟨c', h1, by simpa using h2⟩
theorem some_of_row {w : World} {g : Nat} {cur : Array Value} {t : TypeId} (h : w.heap[g]? = some (.cells cur t (0, 0))) {j : Nat} (hj : j < cur.size) : (w.cell? ⟨g, j, none⟩).isSome = true := by
  rw [cell_of_row w g j cur t (0, 0) h, Array.getElem?_eq_getElem hj]
  rfl
theorem Only.drew (F : Nat → Prop) (w : World) : Only F w w.drew := ⟨rfl, rfl, rfl, Nat.le_refl _, fun _ _ _ => rfl⟩
theorem bvs_get {l : List UInt8} {j : Nat} {u : Value} (h : (l.map bv)[j]? = some u) : j < l.length ∧ u = bv (l.getD j 0) := by
  have hj : j < l.length := by
    rcases Nat.lt_or_ge j l.length with h' | h'
    · exact h'
    · rw [List.getElem?_eq_none (by simpa using h')] at h; cases h
  refine ⟨hj, ?_⟩
  simp [List.getElem?_eq_getElem hj] at h
  simp [hj, h]
theorem bvs_one (l : List UInt8) : ∀ u ∈ l.map bv, u.oneCell' = true := fun u hu => by obtain ⟨x, _, rfl⟩ := List.mem_map.mp hu; rfl

/-- whatever bytes, appended -/
theorem Mid.app {w : World} {A : Option Addr} {c : Nat} {l : List UInt8} (h : Mid w A c l) (B : Option Addr) (d : Nat) (x : List UInt8) (hr : Rd w B x) (hby : l.length + x.length ≤ 140737488355328) :
    ∃ A' c' w', (∀ ty, (Builtin.append_ #[39, 39] ty #[.slice A l.length c, .slice B x.length d]).run Try.prog w = .ok (.slice A' (l ++ x).length c') w') ∧ Mid w' A' c' (l ++ x) ∧
      Only (fun k => blk A = some k) w w' ∧ ∀ k, blk A' = some k → blk A = some k ∨ w.heap.size ≤ k := by
  obtain ⟨i0, hi, hz0, hz1, hz2⟩ := info_parts info8
  rcases Nat.eq_zero_or_pos x.length with hx | hx
  · have hx' : x = [] := List.eq_nil_of_length_eq_zero hx
    subst hx'
    refine ⟨A, c, w, fun ty => ?_, by simpa using h, Only.refl _ _, fun k hk => .inl hk⟩
    have hlc := h.1
    have hl0 : ∀ a : Addr, (loadCells a 0).run Try.prog w = .ok #[] w := fun a => by simpa using run_loadCells_list (P := Try.prog) w a [] (fun j v hj => by simp at hj)
    cases A <;> cases B <;> simp [Builtin.append_, run_underlying Try.underlying39, sizeOf, typeInfo, hi, Builtin.lenOf, Builtin.firstCells, hlc, storeCells, hl0]
    all_goals first | (rcases h.2.2 with ⟨_, h0⟩ | ⟨g, off, cur, e, _⟩ <;> simp_all)
  · obtain ⟨b, o, rfl, hc⟩ := hr (by rintro rfl; simp at hx)
    have hsrc : Src Try.prog i0.size 39 (.slice (some ⟨b, o, none⟩) x.length d) x.length (x.map bv) w := by
      rw [hz1]
      exact Src.ofSlice w Try.underlying39 ⟨b, o, none⟩ x.length d (x.map bv) (by simp) (fun j u hj => by
        obtain ⟨h1, h2⟩ := bvs_get hj
        rw [Addr.add_mid, hc j h1, h2]) (bvs_one x)
    by_cases hroom : l.length + x.length ≤ c
    · rcases h.2.2 with ⟨_, h0⟩ | ⟨g, off, cur, rfl, hg, hs, hcl⟩
      · omega
      obtain ⟨cur', hg', hs'⟩ := setCells_block g 5 (x.map bv) (off + l.length) w cur hg
      have hin : ∀ j, j < (x.map bv).length → (w.cell? ⟨g, off + l.length + j, none⟩).isSome = true := fun j hj => some_of_row hg (by simp at hj; omega)
      have hrun := fun ty => run_append_room_src (P := Try.prog) w 39 39 ty 5 i0 Try.underlying39 hi g off l.length c _ x.length (x.map bv) hsrc hroom (by rw [hz1, Nat.mul_one]; exact hin) (fun j _ => frozen_of_row w g _ _ _ hg)
      rw [hz1, Nat.mul_one] at hrun
      refine ⟨_, c, _, fun ty => by rw [hrun ty]; simp, ⟨by simpa using hroom, h.2.1, .inr ⟨g, off, cur', rfl, hg', by omega, fun j hj => ?_⟩⟩, (Only.setCells w g _ _).mono (fun i _ e => by rw [e]; rfl), fun k hk => .inl hk⟩
      simp at hj
      by_cases hjl : j < l.length
      · rw [World.cell?_setCells_out g _ _ w _ (fun _ _ => .inl (by show off + j < _; omega)), hcl j hjl]
        simp [List.getElem?_append, hjl]
      · have := World.cell?_setCells_in g (x.map bv) (off + l.length) w hin (j - l.length) (by simp; omega)
        rw [show off + l.length + (j - l.length) = off + j by omega] at this
        rw [this]
        simp [List.getElem?_append, hjl, show j - l.length < x.length by omega]
    · have hold : (Builtin.firstCells i0.size l.length (.slice A l.length c)).run Try.prog w.drew = .ok (l.map bv).toArray w.drew := by
        rw [hz1]
        rcases h.2.2 with ⟨rfl, h0⟩ | ⟨g, off, cur, rfl, hg, hs, hcl⟩
        · have : l = [] := List.eq_nil_of_length_eq_zero (by have := h.1; omega)
          subst this
          exact run_firstCells_none w.drew 1 0 0 c
        · exact run_firstCells_some w.drew 1 l.length ⟨g, off, none⟩ l.length c (l.map bv) (by simp) (fun j u hj => by
            obtain ⟨h1, h2⟩ := bvs_get hj
            rw [Addr.add_mid, h2]
            exact hcl j h1)
      have hrun := fun ty => run_append_grow_src (P := Try.prog) w 39 39 ty 5 i0 _ Try.underlying39 hi hz0 A l.length c (l.map bv) hold _ x.length (x.map bv) hsrc (by omega) (by omega) (by rw [hz2]; exact growslice_fits (by omega) (by omega))
      have hG := grownCap_ge w (l.length + x.length) c 5
      refine ⟨_, grownCap w (l.length + x.length) c 5, _, fun ty => by rw [hrun ty, List.length_append], ⟨by simpa using hG, grownCap_le_maxLen w _ _ _ (by unfold maxLen; omega), .inr ⟨w.heap.size, 0, _, rfl, heap_alloc_new w.drew _, ?_, fun j hj => ?_⟩⟩, (Only.drew _ w).alloc _, fun k hk => .inr ?_⟩
      · simp [size_zeroCells, Value.cells]
        omega
      · rw [Nat.zero_add, World.cell?_alloc_at (w := w.drew) _ _ w.heap.size j rfl]
        simp at hj
        rw [Array.getElem?_append_left (by simp; omega)]
        by_cases hjl : j < l.length
        · simp [List.getElem?_append, hjl]
        · simp [List.getElem?_append, hjl, show j - l.length < x.length by omega]
      · injection hk with hk
        have hk' : w.heap.size = k := hk
        omega
end Go.Proofs.Ytgkdabllaankcaa
/- A row of one-cell elements of the call's own that may begin in the middle of its block: append, a store, a cut, what keeps it. No condition. -/
namespace Go.Proofs.Ytgkdabllaankcaa
open Go.RowKit
set_option linter.unusedVariables false

/-- The slice at A, with room for c, holds the values vs (of type e); its block bears no mark. -/
def MidV (e : TypeId) (w : World) (A : Option Addr) (c : Nat) (vs : List Value) : Prop :=
  vs.length ≤ c ∧ c ≤ maxLen ∧ ((A = none ∧ c = 0) ∨ ∃ g off cur, A = some ⟨g, off, none⟩ ∧ w.heap[g]? = some (.cells cur e (0, 0)) ∧ off + c ≤ cur.size ∧ ∀ j u, vs[j]? = some u → w.cell? ⟨g, off + j, none⟩ = some u)
/-- sl is the type of the slices of e, an element is one cell, zero z -/
structure ET (sl e : TypeId) (z : Value) (bytes : Nat) : Prop where
  und : Try.prog.underlying sl = some (.slice e)
  info : (Try.prog.info? e).map (fun i => (i.zero, i.size, i.bytes)) = some (some z, 1, bytes)
  one : z.cells.size = 1
  small : bytes ≤ 24
section
variable {e : TypeId} {w w' : World} {A : Option Addr} {c : Nat} {vs : List Value}
theorem MidV.nil (e : TypeId) (w : World) : MidV e w none 0 [] := ⟨Nat.le_refl _, by decide, .inl ⟨rfl, rfl⟩⟩
theorem MidV.only {F : Nat → Prop} (h : MidV e w A c vs) (o : Only F w w') (hF : ∀ k, blk A = some k → ¬ F k) : MidV e w' A c vs := by
  refine ⟨h.1, h.2.1, ?_⟩
  rcases h.2.2 with h0 | ⟨g, off, cur, rfl, hg, hs, hc⟩
  · exact .inl h0
  · have hb := o.block g (lt_of_block hg) (hF g rfl)
    exact .inr ⟨g, off, cur, rfl, hb.trans hg, hs, fun j u hu => (World.cell?_of_block (w := w) (a := ⟨g, off + j, none⟩) hb).trans (hc j u hu)⟩
theorem MidV.drewN (h : MidV e w A c vs) (n : Nat) : MidV e (w.drewN n) A c vs := h
theorem MidV.type (h : MidV e w A c vs) : ∀ k, blk A = some k → ∃ cur, w.heap[k]? = some (.cells cur e (0, 0)) := by
  intro k hk
  rcases h.2.2 with ⟨rfl, _⟩ | ⟨g, off, cur, rfl, hg, _⟩
  · cases hk
  · injection hk with hk
    have hk' : g = k := hk
    subst hk'
    exact ⟨cur, hg⟩
theorem MidV.blk_lt (h : MidV e w A c vs) : ∀ k, blk A = some k → k < w.heap.size := fun k hk => by
  obtain ⟨cur, hg⟩ := h.type k hk
  exact lt_of_block hg
theorem Mid.type {l : List UInt8} (h : Mid w A c l) : ∀ k, blk A = some k → ∃ cur, w.heap[k]? = some (.cells cur 5 (0, 0)) := by
  intro k hk
  rcases h.2.2 with ⟨rfl, _⟩ | ⟨g, off, cur, rfl, hg, _⟩
  · cases hk
  · injection hk with hk
    have hk' : g = k := hk
    subst hk'
    exact ⟨cur, hg⟩
/-- blocks of two types are two -/
theorem types_apart {t t' : TypeId} {k : Nat} {cur cur' : Array Value} (ht : t ≠ t') (h : w.heap[k]? = some (.cells cur t (0, 0))) (h' : w.heap[k]? = some (.cells cur' t' (0, 0))) : False := by
  rw [h] at h'
  injection h' with h'
  injection h' with _ h'
  exact ht h'
/-- the front -/
theorem MidV.front (h : MidV e w A c vs) (k : Nat) : MidV e w A c (vs.take k) := by
  refine ⟨by have := h.1; simp; omega, h.2.1, ?_⟩
  rcases h.2.2 with h0 | ⟨g, off, cur, rfl, hg, hs, hc⟩
  · exact .inl h0
  · refine .inr ⟨g, off, cur, rfl, hg, hs, fun j u hu => hc j u ?_⟩
    rw [List.getElem?_take] at hu
    split at hu
    · exact hu
    · cases hu
theorem Mid.front {l : List UInt8} (h : Mid w A c l) (k : Nat) : Mid w A c (l.take k) := by
  refine ⟨by have := h.1; simp; omega, h.2.1, ?_⟩
  rcases h.2.2 with h0 | ⟨g, off, cur, rfl, hg, hs, hc⟩
  · exact .inl h0
  · refine .inr ⟨g, off, cur, rfl, hg, hs, fun j hj => ?_⟩
    simp at hj
    rw [hc j (by omega)]
    simp [show j < k by omega]
/-- a cut from 1 on, as 's[1:]' spells it -/
theorem MidV.rest {v : Value} (h : MidV e w A c (v :: vs)) : ∃ g off, A = some ⟨g, off, none⟩ ∧ w.cell? ⟨g, off, none⟩ = some v ∧ 1 ≤ c ∧ (c = 1 → MidV e w A 0 vs) ∧ MidV e w (some ⟨g, off + 1, none⟩) (c - 1) vs := by
  have h1 := h.1
  have h2 := h.2.1
  simp at h1
  rcases h.2.2 with ⟨_, h0⟩ | ⟨g, off, cur, rfl, hg, hs, hc⟩
  · omega
  refine ⟨g, off, rfl, hc 0 v rfl, by omega, fun e => ?_, by omega, by omega, .inr ⟨g, off + 1, cur, rfl, hg, by omega, fun j u hu => ?_⟩⟩
  · have : vs = [] := List.eq_nil_of_length_eq_zero (by omega)
    subst this
    exact ⟨Nat.le_refl _, by decide, .inr ⟨g, off, cur, rfl, hg, by omega, fun j u hu => by simp at hu⟩⟩
  · have := hc (j + 1) u (by simpa using hu)
    rwa [show off + 1 + j = off + (j + 1) by omega]
/-- the place 0: that it may be written, and what a store leaves -/
theorem MidV.first {v : Value} (h : MidV e w A c (v :: vs)) : ∃ g off, A = some ⟨g, off, none⟩ ∧ w.cell? ⟨g, off, none⟩ = some v ∧ w.frozen? ⟨g, off, none⟩ = false ∧ ∀ u, MidV e (w.setCell ⟨g, off, none⟩ u) A c (u :: vs) := by
  have h1 := h.1
  simp at h1
  rcases h.2.2 with ⟨_, h0⟩ | ⟨g, off, cur, rfl, hg, hs, hc⟩
  · omega
  refine ⟨g, off, rfl, hc 0 v rfl, frozen_of_row w g _ _ _ hg, fun u => ⟨by simpa using h1, h.2.1, .inr ⟨g, off, _, rfl, heap_setCell_same w g off cur _ _ hg, by simpa using hs, fun j x hx => ?_⟩⟩⟩
  rcases j with _ | j
  · rw [Nat.add_zero, World.cell?_setCell_same w ⟨g, off, none⟩ _ (hc 0 v rfl)]
    simpa using hx
  · rw [World.cell?_setCell_other _ _ _ _ (by intro h; injection h with _ h; omega), hc (j + 1) x (by simpa using hx)]
/-- what is at the place j -/
theorem MidV.at_ (h : MidV e w A c vs) {j : Nat} {v : Value} (hj : vs[j]? = some v) : ∃ g off, A = some ⟨g, off, none⟩ ∧ w.cell? ⟨g, off + j, none⟩ = some v := by
  have hl : j < vs.length := (List.getElem?_eq_some_iff.1 hj).1
  rcases h.2.2 with ⟨_, h0⟩ | ⟨g, off, cur, rfl, hg, hs, hc⟩
  · have := h.1; omega
  · exact ⟨g, off, rfl, hc j v hj⟩
/-- whatever elements, appended -/
theorem MidV.app {sl : TypeId} {z : Value} {bytes : Nat} (T : ET sl e z bytes) (h : MidV e w A c vs) (b o d : Nat) (xs : List Value) (hx : 0 < xs.length) (hcx : ∀ j u, xs[j]? = some u → w.cell? ⟨b, o + j, none⟩ = some u) (h1 : ∀ u ∈ xs, u.oneCell' = true) (hby : vs.length + xs.length ≤ 2000000) :
    ∃ A' c' w', (∀ ty, (Builtin.append_ #[sl, sl] ty #[.slice A vs.length c, .slice (some ⟨b, o, none⟩) xs.length d]).run Try.prog w = .ok (.slice A' (vs.length + xs.length) c') w') ∧ MidV e w' A' c' (vs ++ xs) ∧
      Only (fun k => blk A = some k) w w' ∧ ∀ k, blk A' = some k → blk A = some k ∨ w.heap.size ≤ k := by
  obtain ⟨i0, hi, hz0, hz1, hz2⟩ := info_parts T.info
  have hsm := T.small
  have hsrc : Src Try.prog i0.size sl (.slice (some ⟨b, o, none⟩) xs.length d) xs.length xs w := by
    rw [hz1]
    exact Src.ofSlice w T.und ⟨b, o, none⟩ xs.length d xs (by simp) (fun j u hj => by rw [Addr.add_mid]; exact hcx j u hj) h1
  by_cases hroom : vs.length + xs.length ≤ c
  · rcases h.2.2 with ⟨_, h0⟩ | ⟨g, off, cur, rfl, hg, hs, hcl⟩
    · omega
    obtain ⟨cur', hg', hs'⟩ := setCells_block g e xs (off + vs.length) w cur hg
    have hin : ∀ j, j < xs.length → (w.cell? ⟨g, off + vs.length + j, none⟩).isSome = true := fun j hj => some_of_row hg (by omega)
    have hrun := fun ty => run_append_room_src (P := Try.prog) w sl sl ty e i0 T.und hi g off vs.length c _ xs.length xs hsrc hroom (by rw [hz1, Nat.mul_one]; exact hin) (fun j _ => frozen_of_row w g _ _ _ hg)
    rw [hz1, Nat.mul_one] at hrun
    refine ⟨_, c, _, hrun, ⟨by simpa using hroom, h.2.1, .inr ⟨g, off, cur', rfl, hg', by omega, fun j u hu => ?_⟩⟩, (Only.setCells w g _ _).mono (fun i _ e => by rw [e]; rfl), fun k hk => .inl hk⟩
    by_cases hjl : j < vs.length
    · rw [List.getElem?_append_left hjl] at hu
      rw [World.cell?_setCells_out g _ _ w _ (fun _ _ => .inl (by show off + j < _; omega)), hcl j u hu]
    · rw [List.getElem?_append_right (by omega)] at hu
      have hj2 : j - vs.length < xs.length := (List.getElem?_eq_some_iff.1 hu).1
      have := World.cell?_setCells_in g xs (off + vs.length) w hin (j - vs.length) hj2
      rw [show off + vs.length + (j - vs.length) = off + j by omega] at this
      rw [this, ← hu]
      simp [hj2]
  · have hold : (Builtin.firstCells i0.size vs.length (.slice A vs.length c)).run Try.prog w.drew = .ok vs.toArray w.drew := by
      rw [hz1]
      rcases h.2.2 with ⟨rfl, h0⟩ | ⟨g, off, cur, rfl, hg, hs, hcl⟩
      · have : vs = [] := List.eq_nil_of_length_eq_zero (by have := h.1; omega)
        subst this
        exact run_firstCells_none w.drew 1 0 0 c
      · exact run_firstCells_some w.drew 1 vs.length ⟨g, off, none⟩ vs.length c vs (by simp) (fun j u hj => by
          rw [Addr.add_mid]
          exact hcl j u hj)
    have hmul : (vs.length + xs.length) * bytes ≤ (vs.length + xs.length) * 24 := Nat.mul_le_mul_left _ hsm
    have hrun := fun ty => run_append_grow_src (P := Try.prog) w sl sl ty e i0 _ T.und hi hz0 A vs.length c vs hold _ xs.length xs hsrc (by omega) (by omega) (by rw [hz2]; exact growslice_fits (by omega) (by omega))
    have hG := grownCap_ge w (vs.length + xs.length) c e
    refine ⟨_, grownCap w (vs.length + xs.length) c e, _, hrun, ⟨by simpa using hG, grownCap_le_maxLen w _ _ _ (by unfold maxLen; omega), .inr ⟨w.heap.size, 0, _, rfl, heap_alloc_new w.drew _, ?_, fun j u hu => ?_⟩⟩, (Only.drew _ w).alloc _, fun k hk => .inr ?_⟩
    · simp [size_zeroCells, T.one]
      omega
    · rw [Nat.zero_add, World.cell?_alloc_at (w := w.drew) _ _ w.heap.size j rfl]
      have hj : j < (vs ++ xs).length := (List.getElem?_eq_some_iff.1 hu).1
      rw [Array.getElem?_append_left (by simpa using hj)]
      simpa using hu
    · injection hk with hk
      have hk' : w.heap.size = k := hk
      omega
/-- one new element, appended -/
theorem MidV.app1 {sl : TypeId} {z : Value} {bytes : Nat} (T : ET sl e z bytes) (h : MidV e w A c vs) (v : Value) (hv : v.oneCell' = true) (hby : vs.length ≤ 1048576) :
    ∃ A' c' w', (∀ ty, (Builtin.append_ #[sl, sl] ty #[.slice A vs.length c, .slice (some ⟨w.heap.size, 0, none⟩) 1 1]).run Try.prog (w.alloc (.cells #[v] e)) = .ok (.slice A' (vs.length + 1) c') w') ∧ MidV e w' A' c' (vs ++ [v]) ∧
      Only (fun k => blk A = some k) w w' ∧ ∀ k, blk A' = some k → blk A = some k ∨ w.heap.size ≤ k := by
  have oa : Only (fun k => blk A = some k) w (w.alloc (.cells #[v] e)) := (Only.refl _ w).alloc _
  obtain ⟨A', c', w', r, m, o, kin⟩ := (h.only (F := fun _ => False) ((Only.refl _ w).alloc (.cells #[v] e)) (fun _ _ h => h)).app T w.heap.size 0 1 [v] (Nat.zero_lt_one) (fun j u hu => by
    rw [Nat.zero_add, cell_of_row _ _ j _ _ (0, 0) (heap_alloc_new w _)]
    simpa using hu) (fun u hu => by simp at hu; subst hu; exact hv) (by simp; omega)
  exact ⟨A', c', w', r, m, oa.trans o (fun _ _ h => h), fun k hk => (kin k hk).elim .inl (fun h => .inr (by simp at h; omega))⟩
end
end Go.Proofs.Ytgkdabllaankcaa
/- Rows of slices of bytes: each leads to its own bytes. No condition. -/
namespace Go.Proofs.Ytgkdabllaankcaa
open Go.RowKit
set_option linter.unusedVariables false

theorem etRow : ET 31 39 (.slice none 0 0) 24 := ⟨Try.underlying31, by kernel_rfl, rfl, by decide⟩
/-- the value v is a slice of the octets x, in F -/
def Pc (w : World) (F : Nat → Prop) (v : Value) (x : List UInt8) : Prop := ∃ B d, v = .slice B x.length d ∧ Mid w B d x ∧ ∀ k, blk B = some k → F k
/-- the values vs are slices of the pieces l, in F -/
def Pcs (w : World) (F : Nat → Prop) : List Value → List (List UInt8) → Prop
  | [], [] => True
  | v :: vs, x :: l => Pc w F v x ∧ Pcs w F vs l
  | _, _ => False
section
variable {w w' : World} {F G : Nat → Prop} {vs us : List Value} {l m : List (List UInt8)} {v : Value} {x : List UInt8}
theorem Pcs.len : ∀ {vs : List Value} {l : List (List UInt8)}, Pcs w F vs l → vs.length = l.length
  | [], [], _ => rfl
  | _ :: _, _ :: _, h => by simp [Pcs.len h.2]
  | [], _ :: _, h => h.elim
  | _ :: _, [], h => h.elim
theorem Pc.only {H : Nat → Prop} (h : Pc w F v x) (o : Only G w w') (hG : ∀ k, F k → (∃ cur, w.heap[k]? = some (.cells cur 5 (0, 0))) → ¬ G k) (hH : ∀ k, F k → H k) : Pc w' H v x := by
  obtain ⟨B, d, h1, h2, h3⟩ := h
  exact ⟨B, d, h1, h2.only o (fun k hk => hG k (h3 k hk) (h2.type k hk)), fun k hk => hH k (h3 k hk)⟩
theorem Pcs.only {H : Nat → Prop} (o : Only G w w') (hG : ∀ k, F k → (∃ cur, w.heap[k]? = some (.cells cur 5 (0, 0))) → ¬ G k) (hH : ∀ k, F k → H k) : ∀ {vs : List Value} {l : List (List UInt8)}, Pcs w F vs l → Pcs w' H vs l
  | [], [], _ => trivial
  | _ :: _, _ :: _, h => ⟨h.1.only o hG hH, Pcs.only o hG hH h.2⟩
  | [], _ :: _, h => h.elim
  | _ :: _, [], h => h.elim
theorem Pcs.app : ∀ {vs : List Value} {l : List (List UInt8)}, Pcs w F vs l → Pc w F v x → Pcs w F (vs ++ [v]) (l ++ [x])
  | [], [], _, h' => ⟨h', trivial⟩
  | _ :: _, _ :: _, h, h' => ⟨h.1, Pcs.app h.2 h'⟩
  | [], _ :: _, h, _ => h.elim
  | _ :: _, [], h, _ => h.elim
theorem Pcs.take : ∀ {vs : List Value} {l : List (List UInt8)}, Pcs w F vs l → ∀ k, Pcs w F (vs.take k) (l.take k)
  | [], [], _, k => by simp [Pcs]
  | _ :: _, _ :: _, h, 0 => by simp [Pcs]
  | _ :: _, _ :: _, h, k + 1 => ⟨h.1, Pcs.take h.2 k⟩
  | [], _ :: _, h, _ => h.elim
  | _ :: _, [], h, _ => h.elim
theorem Pcs.get : ∀ {vs : List Value} {l : List (List UInt8)}, Pcs w F vs l → ∀ {i : Nat}, i < l.length → ∃ B d, vs[i]? = some (.slice B (l.getD i []).length d)
  | [], [], _, i, hi => by simp at hi
  | _ :: _, _ :: _, h, 0, hi => by
    obtain ⟨B, d, h1, _⟩ := h.1
    exact ⟨B, d, by simp [h1]⟩
  | _ :: _, _ :: _, h, i + 1, hi => by
    obtain ⟨B, d, h1⟩ := Pcs.get h.2 (i := i) (by simpa using hi)
    exact ⟨B, d, by simpa using h1⟩
  | [], _ :: _, h, _, _ => h.elim
  | _ :: _, [], h, _, _ => h.elim
theorem Pcs.cons_inv {y : List UInt8} : ∀ {vs : List Value}, Pcs w F vs (y :: l) → ∃ v us, vs = v :: us ∧ Pc w F v y ∧ Pcs w F us l
  | [], h => h.elim
  | v :: us, h => ⟨v, us, rfl, h.1, h.2⟩
end
end Go.Proofs.Ytgkdabllaankcaa
/- An object by the set of its blocks: two small laws. No condition. -/
namespace Go.Proofs.Ytgkdabllaankcaa
open Go.RowKit
set_option linter.unusedVariables false

section
variable {w w' : World} {F : Nat → Prop}
theorem more_lt (hlt : ∀ k, F k → k < w.heap.size) (hs : w.heap.size ≤ w'.heap.size) : ∀ k, more F w w' k → k < w'.heap.size := fun k hk => hk.elim (fun h => Nat.lt_of_lt_of_le (hlt k h) hs) (fun h => h.2)
theorem only_set (w : World) (p : Addr) (u : Value) : Only (fun k => k = p.block) w (w.setCell p u) := (Only.refl (fun k => k = p.block) w).setCell (p := p) (.inl rfl) u
theorem only_from_drewN {n : Nat} (h : Only F (w.drewN n) w') : Only F w w' := ⟨h.os, h.tape, h.output, h.size, h.block⟩
theorem only_drewN (h : Only F w w') (n : Nat) : Only F w (w'.drewN n) := ⟨h.os, h.tape, h.output, h.size, h.block⟩
end
end Go.Proofs.Ytgkdabllaankcaa
/- bytes.Clone gives a new row. Condition: the slice reads as its bytes. -/
namespace Go.Proofs.Ytgkdabllaankcaa
open Go.RowKit
set_option linter.unusedVariables false

theorem nilEq (w : World) (l c : Nat) : (binOp .eql 39 (.slice none l c) (.slice none 0 0)).run Try.prog w = .ok (.bool true) w := by kernel_rfl
theorem someEq (w : World) (a : Addr) (l c : Nat) : (binOp .eql 39 (.slice (some a) l c) (.slice none 0 0)).run Try.prog w = .ok (.bool false) w := by kernel_rfl
theorem cloneOwn_calls (A : Option Addr) (c : Nat) (l : List UInt8) (w : World) (h1 : Rd w A l) (hl : l.length ≤ 1048576) :
    Calls Try.prog 45 #[.slice A l.length c] w (GivesOwn l w) := by
  rcases A with _ | ad
  · have hn : l = [] := by
      rcases l with _ | ⟨x, l⟩
      · rfl
      · obtain ⟨b, off, h, _⟩ := h1 (by simp)
        cases h
    subst hn
    have hq := nilEq w 0 c
    go_enter Try.func45, Try.ntmps45
    go_wp2
    go_ret
    exact ⟨none, 0, rfl, Own.nil _ _, Below.refl _ _⟩
  · have hq := someEq w ad l.length c
    have ho := laid_own w [] (by simp)
    obtain ⟨A', c', w', hrun, hown, hbel⟩ := run_app (laid w []) w.heap.size _ _ _ ho (some ad) c l (h1.below (laid_below _ _)) (by simp; omega) (by rw [laid_size]; omega)
    go_enter Try.func45, Try.ntmps45
    go_wp2_with (at_builtin; refine Lib.wpList_append_run _ rfl _ _ _ _ rfl _ _ rfl rfl _ _ (hrun _) ?_)
    go_ret
    exact ⟨A', c', rfl, hown, (laid_below w []).trans hbel⟩
end Go.Proofs.Ytgkdabllaankcaa

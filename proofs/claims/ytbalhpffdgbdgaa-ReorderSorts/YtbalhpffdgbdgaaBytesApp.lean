/- append onto a row of the call's own, from whatever slice of bytes; conversion of a slice of bytes to a string. Condition: the source reads as the bytes. -/
import Derived.Test.YtbalhpffdgbdgaaBytesRd
import Derived.Laws.BytesArg
import Derived.Laws.AppendOwnNone
import Derived.Lib.AppendZeros
import Derived.Lib.AppendZerosOnto
namespace Go.Proofs.Ytbalhpffdgbdgaa
open Go.RowKit
set_option linter.unusedVariables false

theorem info8 : (Try.prog.info? 5).map (fun i => (i.zero, i.size, i.bytes)) = some (some (.int .u8 0), 1, 1) := by kernel_rfl

/-- the slice value v owns the bytes l, in a block from base on -/
def Own (w : World) (base : Nat) (A : Option Addr) (c : Nat) (l : List UInt8) : Prop := w.ownsRow base 5 1 (.slice A l.length c) l.length (l.map bv)
theorem Own.nil (w : World) (base : Nat) : Own w base none 0 [] := World.ownsRow_nil _ _ _ _
theorem Own.rd {w : World} {base : Nat} {A : Option Addr} {c : Nat} {l : List UInt8} (h : Own w base A c l) : Rd w A l := Rd.of_own h
theorem Own.alloc {w : World} {base : Nat} {A : Option Addr} {c : Nat} {l : List UInt8} (h : Own w base A c l) (o : Obj) : Own (w.alloc o) base A c l := World.ownsRow.alloc h o
theorem Own.cap {w : World} {base : Nat} {A : Option Addr} {c : Nat} {l : List UInt8} (h : Own w base A c l) : l.length ≤ c ∧ c ≤ maxLen := by
  rcases h.2 with ⟨hv, h0⟩ | ⟨g, cap, cur, hv, _, _, h1, h2, _⟩
  · injection hv with _ h1 h2
    subst h2
    rw [h1]
    exact ⟨Nat.le_refl _, by decide⟩
  · injection hv with _ _ h3
    subst h3
    exact ⟨h1, h2⟩

theorem run_app (w : World) (base : Nat) (A : Option Addr) (c : Nat) (xs : List UInt8) (hown : Own w base A c xs) (B : Option Addr) (d : Nat) (l : List UInt8) (hr : Rd w B l)
    (hby : xs.length + l.length ≤ 140737488355328) (hbase : base ≤ w.heap.size) :
    ∃ A' c' w', (∀ ty, (Builtin.append_ #[28, 28] ty #[.slice A xs.length c, .slice B l.length d]).run Try.prog w = .ok (.slice A' (xs ++ l).length c') w') ∧ Own w' base A' c' (xs ++ l) ∧ Below base w w' := by
  obtain ⟨i0, hi, hz0, hz1, hz2⟩ := info_parts info8
  have hg : ∀ k, (Value.slice A xs.length c).ownBlock = some k → base ≤ k := by
    intro k hk
    rcases hown.2 with ⟨hv, _⟩ | ⟨g, cap, cur, hv, hb, _⟩
    · rw [hv] at hk; simp [Value.ownBlock] at hk
    · rw [hv] at hk
      simp [Value.ownBlock] at hk
      omega
  rcases B with _ | ad
  · have hl : l = [] := by
      rcases l with _ | ⟨x, l⟩
      · rfl
      · obtain ⟨b, off, h, _⟩ := hr (by simp)
        cases h
    subst hl
    refine ⟨A, c, w, fun ty => ?_, by simpa using hown, Below.refl _ _⟩
    rcases hown.2 with ⟨hv, h0⟩ | ⟨g, cap, cur, hv, _, _, hnc, _⟩
    · rw [hv]
      simp [Builtin.append_, run_underlying Try.underlying28, sizeOf, typeInfo, hi, Builtin.lenOf, Builtin.firstCells]
      injection hv with h1 h2 h3
      exact ⟨h1.symm, h2.symm, h3.symm⟩
    · injection hv with h1 _ h2
      subst h1 h2
      simp [Builtin.append_, run_underlying Try.underlying28, sizeOf, typeInfo, hi, Builtin.lenOf, Builtin.firstCells, hnc, storeCells]
  · have hcells : ∀ j u, (l.map bv)[j]? = some u → w.cell? (ad.add j) = some u := by
      intro j u hu
      have hj : j < l.length := by
        rcases Nat.lt_or_ge j l.length with h | h
        · exact h
        · rw [List.getElem?_eq_none (by simpa using h)] at hu; cases hu
      obtain ⟨b, off, h, hc⟩ := hr (by rintro rfl; simp at hj)
      injection h with h
      subst h
      rw [Go.WideShapes.add_plain, hc j hj]
      simp [List.getElem?_eq_getElem hj] at hu
      simp [hj, hu]
    have key : ∀ ty, ∃ v' w', (Builtin.append_ #[28, 28] ty #[.slice A xs.length c, .slice (some ad) l.length d]).run Try.prog w = .ok v' w' ∧ w'.ownsRow base 5 1 v' (xs.length + l.length) (xs.map bv ++ l.map bv) ∧ w.grownBy w' (Value.slice A xs.length c).ownBlock := by
      intro ty
      obtain ⟨v', w', h1, h2, h3, _⟩ := run_append_own (P := Try.prog) w base 28 ty 5 i0 _ 1 1 Try.underlying28 hi hz0 hz1 hz2 rfl (by decide) _ _ _ hown ad l.length d (l.map bv) (by simp) hcells
        (fun u hu => by obtain ⟨x, _, rfl⟩ := List.mem_map.mp hu; rfl) (by unfold maxLen; omega) (by omega) hbase
      exact ⟨v', w', h1, h2, h3⟩
    obtain ⟨v', w', h1, h2, h3⟩ := key 0
    have hty : ∀ ty, (Builtin.append_ #[28, 28] ty #[.slice A xs.length c, .slice (some ad) l.length d]).run Try.prog w = .ok v' w' := by
      intro ty
      exact h1
    obtain ⟨A', c', rfl⟩ : ∃ A' c', v' = .slice A' (xs.length + l.length) c' := by
      rcases h2.2 with ⟨rfl, h0⟩ | ⟨g, cap, cur, rfl, _⟩
      · exact ⟨none, 0, by rw [h0]⟩
      · exact ⟨_, _, rfl⟩
    refine ⟨A', c', w', fun ty => ?_, ?_, (Below.refl _ _).grown h3 hbase hg⟩
    · rw [hty ty]; simp
    · unfold Own
      simpa using h2

/-- a string of these bytes -/
def strV (l : List UInt8) : Value := .string ⟨l.toArray⟩
theorem run_conv (w : World) (A : Option Addr) (c : Nat) (l : List UInt8) (hr : Rd w A l) : (convert 28 9 (.slice A l.length c)).run Try.prog w = .ok (strV l) w := by
  rw [run_convert_bytes_string w 28 9 5 A l.length c Try.underlying28 Try.underlying5 Try.underlying9]
  rcases l with _ | ⟨x, l⟩
  · rcases A with _ | ad
    · simp [Conv.bytesToString, strV]
      rfl
    · have := run_bytesToString (P := Try.prog) w ad 0 c [] (by simpa using run_loadCells_list (P := Try.prog) w ad [] (fun j v hj => by simp at hj))
      exact this.trans rfl
  · obtain ⟨b, off, rfl, hc⟩ := hr (by simp)
    generalize x :: l = l at hc
    have hl : (loadCells ⟨b, off, none⟩ l.length).run Try.prog w = .ok ((l.map fun u => (u.toNat : Int)).map (Value.int .u8)).toArray w := by
      have := run_loadCells_list (P := Try.prog) w ⟨b, off, none⟩ (l.map bv) (fun j v hj => by
        have hjl : j < l.length := by
          rcases Nat.lt_or_ge j l.length with h | h
          · exact h
          · rw [List.getElem?_eq_none (by simpa using h)] at hj; cases hj
        rw [Go.WideShapes.add_plain, hc j hjl]
        simp [List.getElem?_eq_getElem hjl] at hj
        simp [hjl, hj])
      rw [List.map_map]
      rw [List.length_map] at this
      exact this
    rw [run_bytesToString w _ l.length c _ hl, foldl_push_bytes]
    have : (l.map fun u => (u.toNat : Int)).map (fun n => UInt8.ofNat n.toNat) = l := by
      rw [List.map_map]
      exact (List.map_congr_left (fun a _ => by simp)).trans (List.map_id l)
    simp only [this, strV]
    rw [show ByteArray.empty.data = #[] from rfl, Array.empty_append]
end Go.Proofs.Ytbalhpffdgbdgaa

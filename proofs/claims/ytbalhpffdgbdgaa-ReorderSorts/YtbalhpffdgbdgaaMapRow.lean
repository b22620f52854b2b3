/- A map by number in memory, told as a row of pairs: look-up, store, delete, len, clear. No condition. -/
import Derived.Test.YtbalhpffdgbdgaaObjMem
import Derived.Test.YtbalhpffdgbdgaaOrdPlain
import Derived.Maps.OwnSet
namespace Go.Proofs.Ytbalhpffdgbdgaa
open Go.RowKit Go.Maps Go.ChangeMaps Go.MapKept
open Go.WideElems (Fit rg)
set_option linter.unusedVariables false

/-- an element's value, as it stands -/
def tokR (v : Value) : Option (DataW Value × List MemPlace) := some (.held v, [])
theorem mpKeyed : Keyed Try.prog 3 := int_keyed (q := .i64) Try.underlying3
theorem mpZero (w : World) : (zeroValue 28).run Try.prog w = .ok (.slice none 0 0) w := by kernel_rfl
theorem mpKey {k : Int} (h0 : 0 ≤ k) (h1 : k < 32768) : keyOf Try.prog 3 (.int .i64 k) = some (.int .i64 k) := keyOf_int_mk Try.underlying3 (by
  exact WalkArith.wf_i64 (by omega))
theorem keyLit (k : Int) : WideAt.IsKeyLit (.int .i64 k) := trivial
/-- Block B is a map that holds these values at these numbers. -/
def MpR (w : World) (B : Nat) (V : List (Int × Value)) : Prop :=
  ∃ D : DataW Value, w.ownsMap Try.prog 3 tokR B V.length D ∧ Tidy D ∧ size D = V.length ∧ ∀ (k : Int) z, D.atKey (.int .i64 k) z = match lk V k with | some v => .held v | none => z
section
variable {w w' : World} {B : Nat} {V : List (Int × Value)} {D : DataW Value}
theorem own_size {n : Nat} (h : w.ownsMap Try.prog 3 tokR B n D) : w.ownsMap Try.prog 3 tokR B (size D) D := by
  obtain ⟨es, clock, hb, F, hs, rfl⟩ := h
  exact ⟨es, clock, hb, F, by rw [show size (.map ((es.toList.map (rg Try.prog 3 tokR)).foldr DataW.insert [])) = es.size by simp [size, length_sorted]]; exact Nat.le_refl _, rfl⟩
theorem MpR.made (w : World) : MpR (w.alloc (.map #[] 0)) w.heap.size [] := ⟨.map [], World.ownsMap_made w _ _ _, tidy_empty, rfl, fun k z => rfl⟩
theorem MpR.block (h : MpR w B V) (hb : w'.heap[B]? = w.heap[B]?) : MpR w' B V := by
  obtain ⟨D, ⟨es, clock, h1, F, hs, hD⟩, h2⟩ := h
  exact ⟨D, ⟨es, clock, hb.trans h1, F, hs, hD⟩, h2⟩
theorem MpR.lt (h : MpR w B V) : B < w.heap.size := by obtain ⟨D, h1, _⟩ := h; exact h1.lt
theorem MpR.only {G : Nat → Prop} (h : MpR w B V) (on : Only G w w') (hd : ¬ G B) : MpR w' B V := h.block (on.block B h.lt hd)
theorem MpR.notCells (h : MpR w B V) {cur : Array Value} {t : TypeId} (hc : w.heap[B]? = some (.cells cur t (0, 0))) : False := by
  obtain ⟨D, ⟨es, clock, h1, _⟩, _⟩ := h
  rw [hc] at h1
  cases h1
theorem has_of (hD : ∀ (k : Int) z, D.atKey (.int .i64 k) z = match lk V k with | some v => .held v | none => z) (k : Int) : has D (.int .i64 k) = (lk V k).isSome := by
  cases hk : lk V k with
  | none => exact has_false_of_atKey (fun z => by rw [hD k z, hk])
  | some v => exact has_true_of_atKey (y := .held v) (fun z => by rw [hD k z, hk])
theorem MpR.look (h : MpR w B V) {k : Int} (h0 : 0 ≤ k) (h1 : k < 32768) : (Instr.lookup 43 (.map (some B)) (.int .i64 k) true).run Try.prog w = .ok (.tuple #[(lk V k).getD (.slice none 0 0), .bool (lk V k).isSome]) w := by
  obtain ⟨D, h2, _, _, h4⟩ := h
  obtain ⟨v, ps, hr, hv⟩ := h2.look_ok mpKeyed Try.underlying43 (mpZero w) (zd := .held (.slice none 0 0)) (zp := []) rfl (mpKey h0 h1)
  rw [has_of h4] at hr
  rw [h4 k] at hv
  have hvv : v = (lk V k).getD (.slice none 0 0) := by
    unfold tokR at hv
    injection hv with hv
    injection hv with hv _
    cases hk : lk V k with
    | none => rw [hk] at hv; injection hv
    | some u => rw [hk] at hv; injection hv
  rw [← hvv]
  exact hr
theorem Only.grownB (h : w.grownBy w' (some B)) : Only (fun k => k = B) w w' := Only.grown h (fun k hk => by injection hk with hk; exact hk.symm)
theorem MpR.store (h : MpR w B V) {k : Int} (h0 : 0 ≤ k) (h1 : k < 32768) (hn : lk V k = none) (hl : V.length < maxLen) (v : Value) :
    ∃ w', (Instr.mapUpdate 43 (.map (some B)) (.int .i64 k) v).run Try.prog w = .ok () w' ∧ MpR w' B (V ++ [(k, v)]) ∧ Only (fun k => k = B) w w' := by
  obtain ⟨D, h2, h3, h4, h5⟩ := h
  obtain ⟨w', hr, ho, hg⟩ := h2.update mpKeyed Try.underlying43 hl (mpKey h0 h1) (d := .held v) (ps := []) (val := v) rfl
  refine ⟨w', hr, ⟨D.put (.int .i64 k) (.held v), ?_, h3.put (keyLit k) _, ?_, fun j z => ?_⟩, Only.grownB hg⟩
  · simpa using ho
  · rw [size_put h3, has_of h5, hn, if_neg (by simp), h4]; simp
  · rw [lk_snoc_new hn]
    by_cases e : j = k
    · subst e
      rw [atKey_put_same h3.isMap (keyLit j), if_pos rfl]
    · rw [atKey_put_other (fun h => e (by injection h)), if_neg e, h5]
theorem MpR.drop (h : MpR w B V) (hds : Ds V) {k : Int} (h0 : 0 ≤ k) (h1 : k < 32768) :
    ∃ w', (∀ ty, (Builtin.delete_ #[43, 3] ty #[.map (some B), .int .i64 k]).run Try.prog w = .ok (.tuple #[]) w') ∧ MpR w' B (dl V k) ∧ Only (fun k => k = B) w w' := by
  obtain ⟨D, h2, h3, h4, h5⟩ := h
  obtain ⟨w', hr, ho, hg⟩ := h2.drop mpKeyed Try.underlying43 (mpKey h0 h1) 0
  have hsz : size (D.del (.int .i64 k)) = (dl V k).length := by
    have := size_del (k := .int .i64 k) h3
    rw [has_of h5, h4] at this
    cases hk : lk V k with
    | none => rw [hk] at this; simp at this; rw [dl_none hk]; exact this
    | some v => rw [hk] at this; have h6 := dl_len_some hk; simp at this; omega
  refine ⟨w', fun ty => hr, ⟨D.del (.int .i64 k), ?_, h3.del _, hsz, fun j z => ?_⟩, Only.grownB hg.grown⟩
  · rw [← hsz]; exact own_size ho
  · by_cases e : j = k
    · subst e
      rw [atKey_del_same, lk_dl_same hds]
    · rw [atKey_del_other (fun h => e (by injection h)), lk_dl_other e, h5]
theorem MpR.len (h : MpR w B V) : ∀ ty, (Builtin.len_ #[43] ty #[.map (some B)]).run Try.prog w = .ok (.int .i64 (V.length : Int)) w := by
  obtain ⟨D, h2, h3, h4, h5⟩ := h
  intro ty
  rw [← h4]
  exact h2.len Try.underlying43 ty
theorem MpR.clear (h : MpR w B V) : ∃ w', (∀ ty, (Builtin.clear_ #[43] ty #[.map (some B)]).run Try.prog w = .ok (.tuple #[]) w') ∧ MpR w' B [] ∧ Only (fun k => k = B) w w' := by
  obtain ⟨D, ⟨es, clock, hb, F, hs, hD⟩, h3, h4, h5⟩ := h
  refine ⟨setBlock w B (.map #[] clock), fun ty => ?_, ⟨.map [], ⟨#[], clock, heap_setBlock_same hb _, ⟨by simp, ?_, by simp⟩, Nat.le_refl _, rfl⟩, tidy_empty, rfl, fun k z => rfl⟩, ⟨rfl, rfl, rfl, by simp [setBlock], fun k _ hk => heap_setBlock_other hb _ hk⟩⟩
  · simp [Builtin.clear_, run_underlying Try.underlying43, MapKept.run_getObj_map hb, MapKept.run_setObj_map _ hb, Result.andThen]
    rfl
  · exact stamped_empty _
end
end Go.Proofs.Ytbalhpffdgbdgaa

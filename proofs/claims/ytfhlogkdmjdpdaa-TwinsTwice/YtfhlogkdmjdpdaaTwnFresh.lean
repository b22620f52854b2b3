/- enter, advance and Fresh of a table of the program. No condition. -/
import Derived.Test.YtfhlogkdmjdpdaaTwnSmall
import Derived.Deep.Cut
namespace Go.Proofs.Ytfhlogkdmjdpdaa
open Go.RowKit
set_option linter.unusedVariables false

/-- The block b holds a table whose places are f. -/
def CT (w : World) (b S : Nat) (kn : Bool) (hi : Nat) (f : Nat → Bool) : Prop := w.heap[b]? = some (.cells (tcells S kn hi f) 39 (0, 0))
section
variable {w : World} {b S hi : Nat} {kn : Bool} {f : Nat → Bool}
theorem enter_calls (h : CT w b S kn hi f) (n : Nat) : Calls Try.prog 17 #[.pointer (some ⟨b, 0, none⟩), .int .u32 (n : Int)] w fun e w' => e = .returned (.bool (!f (n % 4096))) ∧ CT w' b S kn hi (fun i => if i = n % 4096 then true else f i) ∧ Only (fun k => k = b) w w' := by
  have cp := place_calls n
  have hp : n % 4096 < 4096 := by omega
  generalize n % 4096 = p at *
  have c0 := (tcell h).2.2.2 p hp
  have z0 := frozen_of_row w b (3 + p) _ _ h
  have FIN := Lib.hid (show CT (w.setCell ⟨b, 3 + p, none⟩ (.bool true)) b S kn hi (fun i => if i = p then true else f i) ∧ Only (fun k => k = b) w (w.setCell ⟨b, 3 + p, none⟩ (.bool true)) from ⟨tset_at h hp true, only_put (Only.refl _ w) _ _⟩)
  clear h
  generalize f p = x at c0 ⊢
  go_enter Try.func17, Try.ntmps17
  go_wp2_with fail
  refine (cp w).mono ?_
  rintro e w' ⟨rfl, rfl⟩
  go_wp2
  go_ret
  exact ⟨rfl, FIN.out⟩
end
/-- 'clear' by its run equation -/
theorem wpList_clear_run (w : World) {ops : Array Oper} {rest : List Oper} {o : Oper} {a : Act} {Q : Exit → Act → World → Prop} (hgd : o.guard = none) (x : Operand) (t : TypeId)
    (ho : o.op = .call { callee := .builtin .clear, args := #[x], argTypes := #[t] }) (vx : Value) (hx : a.eval x = vx)
    (v' : Value) (w' : World) (hr : (Builtin.clear_ #[t] o.type #[vx]).run Try.prog w = .ok v' w') (h : wpList Try.prog ops Q rest (a.put o.dst v') w') : wpList Try.prog ops Q (o :: rest) a w :=
  wpList_plain hgd fun _ hK => by
    unfold Oper.wp execOp
    simp only [ho, resolve, invoke, builtin, Sem.run_bind, Sem.run_pure, Result.andThen_ok, List.map_toArray, List.map_cons, List.map_nil, hx, hr]
    exact hK _ _ h
/-- what the places are behind an advance by d to n -/
def Adv (f f' : Nat → Bool) (n d : Nat) : Prop := ∀ e, e < 4096 → f' ((n + 4294967296 - e) % 4096) = if e < d then false else f ((n + 4294967296 - e) % 4096)
theorem adv_all (f : Nat → Bool) (n : Nat) {d : Nat} (hd : 4096 ≤ d) : Adv f (wipe f 0 4096) n d := fun e he => by
  unfold wipe
  rw [if_pos (show e < d by omega), if_pos (by omega)]
theorem adv_mid (f : Nat → Bool) {hi d : Nat} (h : hi < 4294967296) (hd : d < 4096) (h0 : 0 < d) (hle : (hi + 1) % 4294967296 % 4096 ≤ (hi + d) % 4294967296 % 4096) :
    Adv f (wipe f ((hi + 1) % 4294967296 % 4096) ((hi + d) % 4294967296 % 4096 + 1 - (hi + 1) % 4294967296 % 4096)) ((hi + d) % 4294967296) d := fun e he => by
  unfold wipe
  by_cases hed : e < d
  · rw [if_pos hed, if_pos (by omega)]
  · rw [if_neg hed, if_neg (by omega)]
theorem adv_two (f : Nat → Bool) {hi d : Nat} (h : hi < 4294967296) (hd : d < 4096) (h0 : 0 < d) (hle : ¬ (hi + 1) % 4294967296 % 4096 ≤ (hi + d) % 4294967296 % 4096) :
    Adv f (wipe (wipe f ((hi + 1) % 4294967296 % 4096) (4096 - (hi + 1) % 4294967296 % 4096)) 0 ((hi + d) % 4294967296 % 4096 + 1)) ((hi + d) % 4294967296) d := fun e he => by
  unfold wipe
  by_cases hed : e < d
  · rw [if_pos hed]
    by_cases h1 : 0 ≤ ((hi + d) % 4294967296 + 4294967296 - e) % 4096 ∧ ((hi + d) % 4294967296 + 4294967296 - e) % 4096 < 0 + ((hi + d) % 4294967296 % 4096 + 1)
    · rw [if_pos h1]
    · rw [if_neg h1, if_pos (by omega)]
  · rw [if_neg hed, if_neg (by omega), if_neg (by omega)]
section
variable {w : World} {b S hi : Nat} {kn : Bool} {f : Nat → Bool}
/-- a clear of a part of the row, with what it leaves -/
theorem CT.wipe (h : CT w b S kn hi f) {a n : Nat} (hn : 0 < n) (hl : a + n ≤ 4096) : ∃ w', (∀ c ty, (Builtin.clear_ #[23] ty #[.slice (some ⟨b, 3 + a, none⟩) n c]).run Try.prog w = .ok (.tuple #[]) w') ∧ CT w' b S kn hi (wipe f a n) ∧ Only (fun k => k = b) w w' :=
  ⟨_, fun c ty => run_clear_row h hn hl c ty, tset_clear n a f w hl h, only_setCells w b _ _⟩
theorem advance_calls (h : CT w b S kn hi f) (hh : hi < 4294967296) (d : Nat) (hd : d < 2147483648) (h0 : 0 < d) : Calls Try.prog 16 #[.pointer (some ⟨b, 0, none⟩), .int .u32 (d : Int)] w fun e w' => e = .returned (.tuple #[]) ∧ ∃ f', CT w' b S kn ((hi + d) % 4294967296) f' ∧ Adv f f' ((hi + d) % 4294967296) d ∧ Only (fun k => k = b) w w' := by
  have cp := fun n => place_calls n
  have c2 := (tcell h).2.2.1
  have A1 := Lib.hid (fun hd' => adv_all f ((hi + d) % 4294967296) (d := d) hd')
  have A2 := Lib.hid (fun hd' => adv_mid f hh (d := d) hd' h0)
  have A3 := Lib.hid (fun hd' => adv_two f hh (d := d) hd' h0)
  have e1 : IntKind.u32.wrap ((hi : Int) + 1) = (((hi + 1) % 4294967296 : Nat) : Int) := by rw [IntKind.wrap_u32]; omega
  have e2 : IntKind.u32.wrap ((hi : Int) + (d : Int)) = (((hi + d) % 4294967296 : Nat) : Int) := by rw [IntKind.wrap_u32]; omega
  have e1' : ((hi : Int) + 1) % 4294967296 = (((hi + 1) % 4294967296 : Nat) : Int) := by omega
  have e2' : ((hi : Int) + (d : Int)) % 4294967296 = (((hi + d) % 4294967296 : Nat) : Int) := by omega
  generalize (hi + 1) % 4294967296 = n1 at *
  have hn2 : (hi + d) % 4294967296 < 4294967296 := by omega
  generalize (hi + d) % 4294967296 = n2 at *
  have hp1 : n1 % 4096 < 4096 := by omega
  have hp2 : n2 % 4096 < 4096 := by omega
  have C1 := cp n1
  have C2 := cp n2
  clear cp
  generalize n1 % 4096 = p1 at *
  generalize n2 % 4096 = p2 at *
  have H := Lib.hid h
  clear h
  by_cases hd1 : 4096 ≤ d
  · have hd1z : (4096 : Int) ≤ (d : Int) := by omega
    go_enter Try.func16, Try.ntmps16
    go_wp2_with fail
    go_quiet (first | (go_at_call 18; exact Calls.quiet_of_same (C1 _)) | (go_at_call 18; exact Calls.quiet_of_same (C2 _)))
    obtain ⟨w1, run, h1, o1⟩ := CT.wipe (w := w.drewN nq) (a := 0) (n := 4096) H.out (by decide) (by decide)
    have k2 := (tcell h1).2.2.1
    have z2 := frozen_of_row w1 b 2 _ _ h1
    have FIN := Lib.hid (show CT (w1.setCell ⟨b, 2, none⟩ (.int .u32 (n2 : Int))) b S kn n2 (wipe f 0 4096) ∧ Adv f (wipe f 0 4096) n2 d ∧ Only (fun k => k = b) w (w1.setCell ⟨b, 2, none⟩ (.int .u32 (n2 : Int))) from ⟨tset_hi h1 n2, A1.out hd1, only_put (((Only.refl _ w).drewN nq).trans o1 (fun _ _ h => h)) _ _⟩)
    clear h1 o1
    go_wp2
    go_end0
    exact ⟨rfl, _, FIN.out⟩
  · have hd1z : decide ((4096 : Int) ≤ (d : Int)) = false := by simp; omega
    have hd1n : decide (4096 ≤ d) = false := by simp; omega
    by_cases hp : p1 ≤ p2
    · have hpz : (p1 : Int) ≤ (p2 : Int) := by omega
      have q1 : (p1 : Int) ≤ (p2 : Int) + 1 := by omega
      have q2 : (p2 : Int) + 1 ≤ 4096 := by omega
      have q3 : ¬ 4096 = p1 := by omega
      have q4 : ¬ p1 = 4096 := by omega
      go_enter Try.func16, Try.ntmps16
      go_wp2_with fail
      go_quiet (first | (go_at_call 18; exact Calls.quiet_of_same (C1 _)) | (go_at_call 18; exact Calls.quiet_of_same (C2 _)))
      obtain ⟨w1, run, h1, o1⟩ := CT.wipe (w := w.drewN nq) (a := p1) (n := p2 + 1 - p1) H.out (by omega) (by omega)
      have k2 := (tcell h1).2.2.1
      have z2 := frozen_of_row w1 b 2 _ _ h1
      have FIN := Lib.hid (show CT (w1.setCell ⟨b, 2, none⟩ (.int .u32 (n2 : Int))) b S kn n2 (wipe f p1 (p2 + 1 - p1)) ∧ Adv f (wipe f p1 (p2 + 1 - p1)) n2 d ∧ Only (fun k => k = b) w (w1.setCell ⟨b, 2, none⟩ (.int .u32 (n2 : Int))) from ⟨tset_hi h1 n2, A2.out (by omega) hp, only_put (((Only.refl _ w).drewN nq).trans o1 (fun _ _ h => h)) _ _⟩)
      clear h1 o1
      clear hp1 hp2 hn2 hd1 hp hd h0 hh
      go_wp2
      go_end0
      exact ⟨rfl, _, FIN.out⟩
    · have hpz : decide ((p1 : Int) ≤ (p2 : Int)) = false := by simp; omega
      have hpn : decide (p1 ≤ p2) = false := by simp; omega
      have q1 : (p1 : Int) ≤ 4096 := by omega
      have q2 : (p2 : Int) + 1 ≤ 4096 := by omega
      have q3 : ¬ 4096 = p1 := by omega
      have q4 : ¬ p1 = 4096 := by omega
      go_enter Try.func16, Try.ntmps16
      go_wp2_with fail
      go_quiet (first | (go_at_call 18; exact Calls.quiet_of_same (C1 _)) | (go_at_call 18; exact Calls.quiet_of_same (C2 _)))
      obtain ⟨w1, run1, h1, o1⟩ := CT.wipe (w := w.drewN nq) (a := p1) (n := 4096 - p1) H.out (by omega) (by omega)
      obtain ⟨N, hN⟩ : ∃ N, 4096 - p1 = N := ⟨_, rfl⟩
      rw [hN] at run1
      obtain ⟨w2, run2, h2, o2⟩ := h1.wipe (a := 0) (n := p2 + 1) (by omega) (by omega)
      have k2 := (tcell h2).2.2.1
      have z2 := frozen_of_row w2 b 2 _ _ h2
      have FIN := Lib.hid (show CT (w2.setCell ⟨b, 2, none⟩ (.int .u32 (n2 : Int))) b S kn n2 (wipe (wipe f p1 (4096 - p1)) 0 (p2 + 1)) ∧ Adv f (wipe (wipe f p1 (4096 - p1)) 0 (p2 + 1)) n2 d ∧ Only (fun k => k = b) w (w2.setCell ⟨b, 2, none⟩ (.int .u32 (n2 : Int))) from ⟨tset_hi h2 n2, A3.out (by omega) hp, only_put ((((Only.refl _ w).drewN nq).trans o1 (fun _ _ h => h)).trans o2 (fun _ _ h => h)) _ _⟩)
      clear h1 o1 h2 o2 hp1 hp2 hn2 hd1 hp hd h0 hh A1 A2 A3
      go_upto_region 2 with (at_builtin; refine wpList_clear_run (o := ⟨_, .call ⟨_, #[.tmp 23], _⟩, _, _, _, _⟩) _ rfl _ _ rfl _ rfl _ _ (run1 _ _) ?_)
      have q5 : (0 : Int) ≤ (p2 : Int) + 1 := by omega
      have q6 : ((p2 : Int) + 1).toNat = p2 + 1 := by omega
      clear run1 q1 hN q3 q4 hpz hpn hd1z hd1n
      go_upto_region 7 with (at_builtin; refine wpList_clear_run _ rfl _ _ rfl _ rfl _ _ (run2 _ _) ?_)
      go_wp2
      go_end0
      exact ⟨rfl, _, FIN.out⟩
end
end Go.Proofs.Ytfhlogkdmjdpdaa

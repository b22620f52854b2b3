/- A scope in which the run jumps to more than one label, forward or back: what holds at each jump, and a measure that every pass from a label lowers. No condition. -/
import Derived.Scope
import Derived.WalkMore
namespace Go.Proofs.Ytnogdlekijpdhaa
open Go

/-- As Q; by a goto to label l: J l. -/
def jumps (J : Nat → Act → World → Prop) (Q : Exit → Act → World → Prop) : Exit → Act → World → Prop
  | .goto l, a, w => J l a w
  | e, a, w => Q e a w
theorem jumps_ret (J : Nat → Act → World → Prop) (Q : Exit → Act → World → Prop) (a : Act) (w : World) : jumps J Q .ret a w = Q .ret a w := rfl
theorem jumps_goto (J : Nat → Act → World → Prop) (Q : Exit → Act → World → Prop) (l : Nat) (a : Act) (w : World) : jumps J Q (.goto l) a w = J l a w := rfl

theorem wp_scope_ranked {P : Program} {a : Act} {w : World} {Q : Exit → Act → World → Prop} {c : Code} (J : Nat → Act → World → Prop) (μ : Nat → Act → World → Nat)
    (first : c.wp P (jumps J Q) a w)
    (pass : ∀ l a w, J l a w → ∃ rest, findLabel c l = some rest ∧ rest.wp P (jumps (fun l' a' w' => J l' a' w' ∧ μ l' a' w' < μ l a w) Q) a w) : (Code.scope c).wp P Q a w := by
  intro b k cs
  have hg : ∀ l rest, findLabel c l = some rest → gotoIn l (.inScope c :: k) = some (.code rest :: .inScope c :: k) := fun l rest hf => by simp [gotoIn, hf]
  have key : ∀ n l a w rest, μ l a w = n → J l a w → findLabel c l = some rest → ∃ e a' w', Q e a' w' ∧ Arrives P (lone (b.at a (.code rest :: .inScope c :: k)) cs w) b k cs e a' w' := by
    intro n
    induction n using Nat.strongRecOn with
    | _ n ih =>
      intro l a w rest hn hJ hf
      obtain ⟨rest', hf', hp⟩ := pass l a w hJ
      rw [hf] at hf'
      injection hf' with hf'
      subst hf'
      obtain ⟨e, a₁, w₁, hq, harr⟩ := hp b (.inScope c :: k) cs
      cases e with
      | normal => exact ⟨.normal, a₁, w₁, hq, Steps.trans harr (.one step_inScope)⟩
      | exit id => exact ⟨.exit id, a₁, w₁, hq, fun k' hk => harr k' (by simp [exitTo, hk])⟩
      | goto l' =>
        obtain ⟨hJ', hlt⟩ := hq
        obtain ⟨rest₂, hf₂, _⟩ := pass l' a₁ w₁ hJ'
        obtain ⟨e₂, a₂, w₂, hq₂, harr₂⟩ := ih _ (by omega) l' a₁ w₁ rest₂ rfl hJ' hf₂
        exact ⟨e₂, a₂, w₂, hq₂, .of_steps (harr _ (hg _ _ hf₂)) harr₂⟩
      | ret => exact ⟨_, a₁, w₁, hq, harr⟩
      | panic ch => exact ⟨_, a₁, w₁, hq, harr⟩
      | outgrown => exact ⟨_, a₁, w₁, hq, harr⟩
  obtain ⟨e, a₁, w₁, hq, harr⟩ := first b (.inScope c :: k) cs
  cases e with
  | normal => exact ⟨.normal, a₁, w₁, hq, .head step_scope (Steps.trans harr (.one step_inScope))⟩
  | exit id => exact ⟨.exit id, a₁, w₁, hq, fun k' hk => .head step_scope (harr k' (by simp [exitTo, hk]))⟩
  | goto l' =>
    obtain ⟨rest₂, hf₂, _⟩ := pass l' a₁ w₁ hq
    obtain ⟨e₂, a₂, w₂, hq₂, harr₂⟩ := key _ l' a₁ w₁ rest₂ rfl hq hf₂
    exact ⟨e₂, a₂, w₂, hq₂, .of_steps (.head step_scope (harr _ (hg _ _ hf₂))) harr₂⟩
  | ret => exact ⟨_, a₁, w₁, hq, .of_steps (.one step_scope) harr⟩
  | panic ch => exact ⟨_, a₁, w₁, hq, .of_steps (.one step_scope) harr⟩
  | outgrown => exact ⟨_, a₁, w₁, hq, .of_steps (.one step_scope) harr⟩
theorem wp_scope_labels {P : Program} {a : Act} {w : World} {Q : Exit → Act → World → Prop} {c : Code} (J : Nat → Act → World → Prop) (μ : Act → World → Nat)
    (first : c.wp P (jumps J Q) a w)
    (pass : ∀ l a w, J l a w → ∃ rest, findLabel c l = some rest ∧ rest.wp P (jumps (fun l' a' w' => J l' a' w' ∧ μ a' w' < μ a w) Q) a w) : (Code.scope c).wp P Q a w :=
  wp_scope_ranked J (fun _ => μ) first pass
/-- to one label, and from it on to another one at most -/
theorem wp_scope_two {P : Program} {a : Act} {w : World} {Q : Exit → Act → World → Prop} {c : Code} (l1 l2 : Nat) (hne : l2 ≠ l1) (J1 J2 : Act → World → Prop)
    (first : c.wp P (jumps (fun l a w => l = l1 ∧ J1 a w) Q) a w)
    (pass1 : ∀ a w, J1 a w → ∃ rest, findLabel c l1 = some rest ∧ rest.wp P (jumps (fun l a w => l = l2 ∧ J2 a w) Q) a w)
    (pass2 : ∀ a w, J2 a w → ∃ rest, findLabel c l2 = some rest ∧ rest.wp P (jumps (fun _ _ _ => False) Q) a w) : (Code.scope c).wp P Q a w := by
  refine wp_scope_ranked (fun l a w => (l = l1 ∧ J1 a w) ∨ (l = l2 ∧ J2 a w)) (fun l _ _ => if l = l1 then 1 else 0) (Go.wp_mono first ?_) ?_
  · intro e a w h
    cases e <;> first | exact h | exact .inl h
  · rintro l a w (⟨rfl, h⟩ | ⟨rfl, h⟩)
    · obtain ⟨rest, hf, hw⟩ := pass1 a w h
      refine ⟨rest, hf, Go.wp_mono hw ?_⟩
      intro e a' w' h
      cases e <;> first | exact h | (obtain ⟨rfl, h⟩ := h; exact ⟨.inr ⟨rfl, h⟩, by rw [if_pos rfl, if_neg hne]; decide⟩)
    · obtain ⟨rest, hf, hw⟩ := pass2 a w h
      refine ⟨rest, hf, Go.wp_mono hw ?_⟩
      intro e a' w' h
      cases e <;> first | exact h | exact h.elim
end Go.Proofs.Ytnogdlekijpdhaa

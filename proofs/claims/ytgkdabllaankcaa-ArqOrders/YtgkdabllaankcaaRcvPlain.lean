/- What an end has received, by the absolute numbers of the messages: the order, plainly. No condition. -/
import Derived.Test.YtgkdabllaankcaaSndPlain
namespace Go.Proofs.Ytgkdabllaankcaa
set_option linter.unusedVariables false

theorem mod_inj {M x y : Nat} (h : x % M = y % M) (h1 : x ≤ y) (h2 : y < x + M) : x = y := by
  have h3 := Nat.sub_mod_eq_zero_of_mod_eq h.symm
  rw [Nat.mod_eq_of_lt (by omega)] at h3
  omega
/-- the number of a message -/
def nm (M x : Nat) : Int := ((x % M : Nat) : Int)
/-- E messages were ready; of those behind the ones of K are kept; none lies at B or beyond -/
structure Rcv (M W : Nat) (S : List (List UInt8)) (E B : Nat) (K : Nat → Prop) (o : Od) : Prop where
  ok : o.Ok
  m : o.m = M
  w : o.W = W
  e : o.e = E % M
  kept : ∀ z y, lk o.k z = some y ↔ ∃ x, K x ∧ z = nm M x ∧ y = S.getD x []
  rng : ∀ x, K x → E ≤ x ∧ x < B
  eb : E ≤ B
  bw : B ≤ E + W
def rdy (S : List (List UInt8)) (a b : Nat) : List (List UInt8) := mapR (fun x => S.getD x []) a b
section
variable {M W E B : Nat} {S : List (List UInt8)} {K : Nat → Prop} {o : Od}
theorem Rcv.sz (h : Rcv M W S E B K o) : 1 ≤ W ∧ W * 8 ≤ M ∧ 8 ≤ M := by
  have h1 := h.ok.w1; have h2 := h.ok.w8; have h3 := h.ok.m8
  rw [h.w] at h1 h2; rw [h.m] at h2 h3
  exact ⟨h1, h2, h3⟩
theorem Rcv.uniq (h : Rcv M W S E B K o) {x y : Nat} (hx : E ≤ x ∧ x < E + W) (hy : E ≤ y ∧ y < E + W) (e : nm M x = nm M y) : x = y := by
  obtain ⟨h1, h2, h3⟩ := h.sz
  have e : x % M = y % M := Int.ofNat_inj.1 e
  rcases Nat.le_total x y with c | c
  · exact mod_inj e c (by omega)
  · exact (mod_inj e.symm c (by omega)).symm
theorem Rcv.has (h : Rcv M W S E B K o) {x : Nat} (hx : E ≤ x ∧ x < E + W) : (∀ y, lk o.k (nm M x) = some y → K x ∧ y = S.getD x []) ∧ (lk o.k (nm M x) = none → ¬ K x) := by
  constructor
  · intro y hy
    obtain ⟨x', k, e, rfl⟩ := (h.kept _ _).1 hy
    have := h.rng x' k
    have := h.bw
    obtain rfl := h.uniq hx ⟨by omega, by omega⟩ e
    exact ⟨k, rfl⟩
  · intro hn k
    have := (h.kept (nm M x) _).2 ⟨x, k, rfl, rfl⟩
    rw [hn] at this
    cases this
theorem Rcv.adv : ∀ (f : Nat) {E : Nat} {K : Nat → Prop} {o : Od}, Rcv M W S E B K o → o.k.length < f → ∃ E' K', Rcv M W S E' B K' (Od.adv f o) ∧ ¬ K' E' ∧ E ≤ E' ∧ (Od.adv f o).r = o.r ++ rdy S E E'
  | 0, E, K, o, h, hf => absurd hf (by omega)
  | f + 1, E, K, o, h, hf => by
    obtain ⟨w1, w2, w3⟩ := h.sz
    have heq : (o.e : Int) = nm M E := by rw [h.e]; rfl
    have hb := h.bw
    have heb := h.eb
    obtain ⟨p1, p2⟩ := h.has (x := E) ⟨Nat.le_refl _, by omega⟩
    cases hk : lk o.k (o.e : Int) with
    | none =>
      have hn : ¬ K E := p2 (by rw [← heq]; exact hk)
      rw [Od.adv_none hk]
      exact ⟨E, K, h, hn, Nat.le_refl _, by unfold rdy; rw [mapR_none, List.append_nil]⟩
    | some y =>
      obtain ⟨kE, rfl⟩ := p1 y (by rw [← heq]; exact hk)
      have hlt := (h.rng E kE).2
      rw [Od.adv_some hk]
      have R : Rcv M W S (E + 1) B (fun x => K x ∧ x ≠ E) (o.step (S.getD E [])) := by
        refine ⟨h.ok.step hk, h.m, h.w, ?_, ?_, ?_, by omega, by omega⟩
        · show (o.e + 1) % o.m = (E + 1) % M
          rw [h.e, h.m, Nat.mod_add_mod]
        · intro z y
          show lk (dl o.k (o.e : Int)) z = some y ↔ _
          by_cases c : z = (o.e : Int)
          · subst c
            rw [lk_dl_same h.ok.ds]
            constructor
            · intro h; cases h
            · rintro ⟨x, ⟨k1, k2⟩, k3, -⟩
              have := h.rng x k1
              exact absurd (h.uniq ⟨this.1, by omega⟩ ⟨Nat.le_refl _, by omega⟩ (by rw [← k3, heq])) k2
          · rw [lk_dl_other c, h.kept]
            constructor
            · rintro ⟨x, k1, k2, k3⟩
              exact ⟨x, ⟨k1, fun e => c (by rw [k2, e, heq])⟩, k2, k3⟩
            · rintro ⟨x, ⟨k1, -⟩, k2, k3⟩
              exact ⟨x, k1, k2, k3⟩
        · rintro x ⟨k1, k2⟩
          have := h.rng x k1
          omega
      have hlen := (Od.step_all hk).2
      obtain ⟨E', K', q1, q2, q3, q4⟩ := Rcv.adv f R (by omega)
      refine ⟨E', K', q1, q2, by omega, ?_⟩
      rw [q4]
      show (o.r ++ [S.getD E []]) ++ rdy S (E + 1) E' = _
      unfold rdy
      rw [List.append_assoc, List.singleton_append, ← mapR_first (fun x => S.getD x []) (by omega)]
/-- the message x comes -/
theorem Rcv.put (h : Rcv M W S E B K o) (hn : ¬ K E) {x : Nat} (h1 : x < E + W) (h2 : B ≤ x + W) (hs : (S.getD x []).length ≤ 1048576) :
    ∃ E' K', Rcv M W S E' (max B (x + 1)) K' (o.put (nm M x) (S.getD x [])) ∧ ¬ K' E' ∧ E ≤ E' ∧ (o.put (nm M x) (S.getD x [])).r = o.r ++ rdy S E E' := by
  obtain ⟨w1, w2, w3⟩ := h.sz
  have hb := h.bw
  have heb := h.eb
  have hfar : o.far (nm M x) = decide (x < E) := by
    unfold Od.far nm
    rw [h.w, h.m, h.e, Int.natCast_emod, Int.natCast_emod, ← Int.sub_emod]
    by_cases c : x < E
    · rw [show (x : Int) - (E : Int) = ((x : Int) - (E : Int) + (M : Int)) + (M : Int) * (-1) by omega, Int.add_mul_emod_self_left, Int.emod_eq_of_lt (by omega) (by omega)]
      exact decide_eq_decide.2 (by omega)
    · rw [Int.emod_eq_of_lt (by omega) (by omega)]
      exact decide_eq_decide.2 (by omega)
  have same : E ≤ E ∧ o.r = o.r ++ rdy S E E := ⟨Nat.le_refl _, by unfold rdy; rw [mapR_none, List.append_nil]⟩
  by_cases c : x < E
  · rw [decide_eq_true c] at hfar
    rw [(Od.put_far hfar).1, show max B (x + 1) = B by omega]
    exact ⟨E, K, h, hn, same⟩
  · rw [decide_eq_false c] at hfar
    have hz : nm M x % (o.m : Int) = nm M x := by
      unfold nm
      rw [h.m]
      have := Nat.mod_lt x (by omega : 0 < M)
      exact Int.emod_eq_of_lt (by omega) (by omega)
    obtain ⟨p1, p2⟩ := h.has (x := x) ⟨by omega, h1⟩
    cases hh : o.had (nm M x) with
    | true =>
      rw [(Od.put_had hfar hh).1]
      obtain ⟨y, hy⟩ := Od.had_some hh
      rw [hz] at hy
      have hx := (h.rng x (p1 y hy).1).2
      rw [show max B (x + 1) = B by omega]
      exact ⟨E, K, h, hn, same⟩
    | false =>
      have hy := Od.had_none hh
      have hK := p2 (by rw [← hz]; exact hy)
      rw [(Od.put_new (x := S.getD x []) hfar hh).1]
      have R : Rcv M W S E (max B (x + 1)) (fun z => K z ∨ z = x) (o.add (nm M x) (S.getD x [])) := by
        refine ⟨h.ok.add hh hs, h.m, h.w, h.e, ?_, ?_, by omega, by omega⟩
        · intro z y
          show lk (o.k ++ [(nm M x % (o.m : Int), S.getD x [])]) z = some y ↔ _
          rw [lk_snoc_new hy, hz]
          by_cases cz : z = nm M x
          · rw [if_pos cz]
            constructor
            · intro e
              injection e with e
              exact ⟨x, .inr rfl, cz, e.symm⟩
            · rintro ⟨x', k1, k2, rfl⟩
              rcases k1 with k1 | rfl
              · have := h.rng x' k1
                exact absurd (h.uniq ⟨this.1, by omega⟩ ⟨by omega, h1⟩ (by rw [← k2, cz])) (fun e => hK (e ▸ k1))
              · rfl
          · rw [if_neg cz, h.kept]
            constructor
            · rintro ⟨x', k1, k2, k3⟩; exact ⟨x', .inl k1, k2, k3⟩
            · rintro ⟨x', k1, k2, k3⟩
              rcases k1 with k1 | rfl
              · exact ⟨x', k1, k2, k3⟩
              · exact absurd k2 cz
        · rintro z (k1 | rfl)
          · have := h.rng z k1; omega
          · omega
      obtain ⟨E', K', q1, q2, q3, q4⟩ := Rcv.adv ((o.add (nm M x) (S.getD x [])).k.length + 1) R (Nat.lt_succ_self _)
      exact ⟨E', K', q1, q2, q3, q4⟩
/-- more may have been said -/
theorem Rcv.grow (h : Rcv M W S E B K o) (hB : B ≤ S.length) (y : List UInt8) : Rcv M W (S ++ [y]) E B K o := by
  refine ⟨h.ok, h.m, h.w, h.e, fun z v => ?_, h.rng, h.eb, h.bw⟩
  rw [h.kept]
  have e : ∀ x, K x → (S ++ [y]).getD x [] = S.getD x [] := fun x k => by
    have := (h.rng x k).2
    rw [List.getD_eq_getElem?_getD, List.getD_eq_getElem?_getD, List.getElem?_append_left (by omega)]
  constructor
  · rintro ⟨x, k1, k2, k3⟩; exact ⟨x, k1, k2, by rw [e x k1]; exact k3⟩
  · rintro ⟨x, k1, k2, k3⟩; exact ⟨x, k1, k2, by rw [← e x k1]; exact k3⟩
theorem Rcv.dry (h : Rcv M W S E B K o) : Rcv M W S E B K o.dry := ⟨{ h.ok with small := fun x hx => (List.not_mem_nil hx).elim }, h.m, h.w, h.e, h.kept, h.rng, h.eb, h.bw⟩
theorem take_rdy {a b : Nat} (h : a ≤ b) (hb : b ≤ S.length) : S.take a ++ rdy S a b = S.take b := by
  induction b with
  | zero => rw [show a = 0 by omega]; unfold rdy; rw [mapR_none, List.append_nil]
  | succ b ih =>
    by_cases c : a = b + 1
    · rw [c]; unfold rdy; rw [mapR_none, List.append_nil]
    · have := ih (by omega) (by omega)
      unfold rdy at this ⊢
      rw [mapR_snoc _ (by omega), ← List.append_assoc, this, List.take_add_one, List.getD_eq_getElem?_getD, List.getElem?_eq_getElem (by omega : b < S.length)]
      rfl
end
end Go.Proofs.Ytgkdabllaankcaa

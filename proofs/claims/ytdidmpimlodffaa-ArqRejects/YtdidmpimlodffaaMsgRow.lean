/- Rows of messages of the reference: a number and a slice of bytes each. No condition. -/
import Derived.Test.YtdidmpimlodffaaG2
import Derived.Test.YtdidmpimlodffaaKRow
namespace Go.Proofs.Ytdidmpimlodffaa
open Go.RowKit
set_option linter.unusedVariables false

theorem etMsg : ETK 93 98 2 (.agg #[.int .i64 0, .slice none 0 0]) 32 := ⟨Try.underlying93, by kernel_rfl, rfl, by decide⟩
/-- the cells cs are the messages l, their bytes in F -/
def Ms (w : World) (F : Nat → Prop) : List Value → List (Int × List UInt8) → Prop
  | [], [] => True
  | u :: v :: cs, (k, x) :: l => u = .int .i64 k ∧ Pc w F v x ∧ Ms w F cs l
  | _, _ => False
section
variable {w w' : World} {F G : Nat → Prop} {cs : List Value} {l : List (Int × List UInt8)} {v : Value} {x : List UInt8} {k : Int}
theorem Ms.len : ∀ {cs : List Value} {l : List (Int × List UInt8)}, Ms w F cs l → cs.length = l.length * 2
  | [], [], _ => rfl
  | _ :: _ :: _, (_, _) :: _, h => by simp [Ms.len h.2.2]; omega
  | [], _ :: _, h => h.elim
  | [_], _, h => by unfold Ms at h; exact h.elim
  | _ :: _ :: _, [], h => h.elim
theorem Ms.one : ∀ {cs : List Value} {l : List (Int × List UInt8)}, Ms w F cs l → ∀ u ∈ cs, u.oneCell' = true
  | [], [], _, u, hu => by cases hu
  | a :: b :: cs, (_, _) :: _, h, u, hu => by
    obtain ⟨h1, ⟨B, d, h2, _⟩, h3⟩ := h
    rcases List.mem_cons.1 hu with rfl | hu
    · rw [h1]; rfl
    rcases List.mem_cons.1 hu with rfl | hu
    · rw [h2]; rfl
    exact Ms.one h3 u hu
  | [], _ :: _, h, _, _ => h.elim
  | [_], _, h, _, _ => by unfold Ms at h; exact h.elim
  | _ :: _ :: _, [], h, _, _ => h.elim
theorem Ms.only {H : Nat → Prop} (o : Only G w w') (hG : ∀ k, F k → (∃ cur, w.heap[k]? = some (.cells cur 5 (0, 0))) → ¬ G k) (hH : ∀ k, F k → H k) : ∀ {cs : List Value} {l : List (Int × List UInt8)}, Ms w F cs l → Ms w' H cs l
  | [], [], _ => trivial
  | _ :: _ :: _, (_, _) :: _, h => ⟨h.1, h.2.1.only o hG hH, Ms.only o hG hH h.2.2⟩
  | [], _ :: _, h => h.elim
  | [_], _, h => by unfold Ms at h; exact h.elim
  | _ :: _ :: _, [], h => h.elim
theorem Ms.app : ∀ {cs : List Value} {l : List (Int × List UInt8)}, Ms w F cs l → Pc w F v x → Ms w F (cs ++ [.int .i64 k, v]) (l ++ [(k, x)])
  | [], [], _, h' => ⟨rfl, h', trivial⟩
  | _ :: _ :: _, (_, _) :: _, h, h' => ⟨h.1, h.2.1, Ms.app h.2.2 h'⟩
  | [], _ :: _, h, _ => h.elim
  | [_], _, h, _ => by unfold Ms at h; exact h.elim
  | _ :: _ :: _, [], h, _ => h.elim
theorem Ms.drop : ∀ {cs : List Value} {l : List (Int × List UInt8)}, Ms w F cs l → ∀ k, Ms w F (cs.drop (k * 2)) (l.drop k)
  | [], [], _, k => by simp [Ms]
  | _ :: _ :: _, (_, _) :: _, h, 0 => h
  | _ :: _ :: _, (_, _) :: _, h, k + 1 => by
    rw [show (k + 1) * 2 = k * 2 + 1 + 1 by omega]
    exact Ms.drop h.2.2 k
  | [], _ :: _, h, _ => h.elim
  | [_], _, h, _ => by unfold Ms at h; exact h.elim
  | _ :: _ :: _, [], h, _ => h.elim
theorem Ms.at_ : ∀ {cs : List Value} {l : List (Int × List UInt8)}, Ms w F cs l → ∀ {i : Nat}, i < l.length → cs[i * 2]? = some (.int .i64 (l.getD i (0, [])).1) ∧ ∃ B d, cs[i * 2 + 1]? = some (.slice B (l.getD i (0, [])).2.length d) ∧ Mid w B d (l.getD i (0, [])).2 ∧ ∀ k, blk B = some k → F k
  | [], [], _, i, hi => by simp at hi
  | _ :: _ :: _, (_, _) :: _, h, 0, hi => by
    obtain ⟨h1, ⟨B, d, h2, h3, h4⟩, _⟩ := h
    exact ⟨by simp [h1], B, d, by simp [h2], h3, h4⟩
  | _ :: _ :: _, (_, _) :: _, h, i + 1, hi => by
    have := Ms.at_ h.2.2 (i := i) (by simpa using hi)
    rw [show (i + 1) * 2 = i * 2 + 1 + 1 by omega]
    exact this
  | [], _ :: _, h, _, _ => h.elim
  | [_], _, h, _, _ => by unfold Ms at h; exact h.elim
  | _ :: _ :: _, [], h, _, _ => h.elim
end
end Go.Proofs.Ytdidmpimlodffaa

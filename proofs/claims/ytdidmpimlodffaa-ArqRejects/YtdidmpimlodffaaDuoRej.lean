/- One end of a session and the reference's order side by side. No condition. -/
import Derived.Test.YtdidmpimlodffaaG12
import Derived.Test.YtdidmpimlodffaaRoPut
import Derived.Test.YtdidmpimlodffaaRoTake
import Derived.Test.YtdidmpimlodffaaG13
namespace Go.Proofs.Ytdidmpimlodffaa
open Go.RowKit
set_option linter.unusedVariables false

/-- The end at b is in the state s, the reference's order at pr in the state o; their memory lies apart; G: what the law has more to keep. -/
def Duo (G : Nat → Prop) (w v : World) (b pr : Nat) (s : Aq) (o : Od) : Prop := ∃ R, AqOne (fun k => R k ∨ G k) w v b s ∧ RoP v R pr o ∧ (∀ k, R k → w.heap.size ≤ k ∧ ¬ G k)
section
variable {w v v' : World} {G H : Nat → Prop} {b pr : Nat} {s s' : Aq} {o : Od}
theorem Duo.bel (h : Duo G w v b pr s o) : Below w.heap.size w v := by obtain ⟨_, h, _⟩ := h; exact h.bel
theorem Duo.beside (h : Duo G w v b pr s o) (hb : Below v.heap.size v v') : Duo G w v' b pr s o := by
  obtain ⟨R, h1, h2, h3⟩ := h
  exact ⟨R, h1.beside hb, h2.only (G := fun _ => False) (Only.of_below _ hb) (fun _ _ h => h), h3⟩
theorem Duo.drewN (h : Duo G w v b pr s o) (n : Nat) : Duo G w (v.drewN n) b pr s o := h.beside ⟨rfl, rfl, rfl, Nat.le_refl _, fun _ _ => rfl⟩
theorem Duo.less (h : Duo G w v b pr s o) (hG : ∀ k, H k → G k) : Duo H w v b pr s o := by
  obtain ⟨R, h1, h2, h3⟩ := h
  exact ⟨R, h1.less (fun k hk => hk.imp id (hG k)), h2, fun k hk => ⟨(h3 k hk).1, fun h => (h3 k hk).2 (hG k h)⟩⟩
/-- new memory of the law's own -/
theorem Duo.grow (h : Duo G w v b pr s o) (hb : Below v.heap.size v v') : Duo (fun k => G k ∨ (v.heap.size ≤ k ∧ k < v'.heap.size)) w v' b pr s o := by
  obtain ⟨R, h1, h2, h3⟩ := h
  have h1' := h1.beside hb
  obtain ⟨F, g1, g2, g3, g4⟩ := h1
  have hF := g1.lt
  refine ⟨R, ⟨F, g1.below hb, fun k hk => ⟨(g2 k hk).1, fun e => ?_⟩, g3.trans (hb.mono g3.size), fun k hk => ?_⟩, h2.only (G := fun _ => False) (Only.of_below _ hb) (fun _ _ h => h), fun k hk => ⟨(h3 k hk).1, fun e => e.elim (h3 k hk).2 (fun e => by have := h2.lt k hk; omega)⟩⟩
  · rcases e with e | e | e
    · exact (g2 k hk).2 (.inl e)
    · exact (g2 k hk).2 (.inr e)
    · have := hF k hk; omega
  · rcases hk with e | e | e
    · exact Nat.lt_of_lt_of_le (g4 k (.inl e)) hb.size
    · exact Nat.lt_of_lt_of_le (g4 k (.inr e)) hb.size
    · exact e.2
/-- a call of the end by its contract -/
theorem Duo.act {f : Nat} {args : Array Value} {r : Ending} (h : Duo G w v b pr s o) (hc : ∀ H', AqOne H' w v b s → (∀ k, G k → H' k) → Calls Try.prog f args v fun e v' => e = r ∧ AqOne H' w v' b s' ∧ Kept H' v v') :
    Calls Try.prog f args v fun e v' => e = r ∧ Duo G w v' b pr s' o ∧ Kept G v v' := by
  obtain ⟨R, h1, h2, h3⟩ := h
  refine (hc _ h1 (fun k hk => .inr hk)).mono ?_
  rintro e v' ⟨rfl, h1', k⟩
  obtain ⟨F, on, hd, hs⟩ := k
  exact ⟨rfl, ⟨R, h1', h2.only on (fun k hk hF => hd k hF (.inl hk)), h3⟩, F, on, fun k hk e => hd k hk (.inr e), hs⟩
theorem Duo.output (h : Duo G w v b pr s o) : Calls Try.prog 27 #[.pointer (some ⟨b, 0, none⟩)] v fun e v' => ∃ A c K, e = .returned (.slice A s.os.length c) ∧ RowP v' K A c s.os ∧ Duo (fun k => G k ∨ K k) w v' b pr s.output o := by
  obtain ⟨R, h1, h2, h3⟩ := h
  refine h1.output.mono ?_
  rintro e v' ⟨A, c, K, rfl, row, h1', ⟨F, on, hd, hs⟩, hK⟩
  exact ⟨A, c, K, rfl, row, R, h1'.less (fun k hk => by rcases hk with hk | hk | hk; exact .inl (.inl hk); exact .inl (.inr hk); exact .inr hk), h2.only on (fun k hk hF => hd k hF (.inl hk)), fun k hk => ⟨(h3 k hk).1, fun e => e.elim (h3 k hk).2 (fun e => (hK k e).2 (.inl hk))⟩⟩
theorem Duo.recv (h : Duo G w v b pr s o) : Calls Try.prog 38 #[.pointer (some ⟨b, 0, none⟩)] v fun e v' => ∃ A d, e = .returned (.tuple #[.slice A s.od.takeX.length d, .bool s.od.takeB]) ∧ Rd v' A s.od.takeX ∧ Duo G w v' b pr s.recv o ∧ ∀ X z, Rd v X z → Rd v' X z := by
  obtain ⟨R, ⟨F, g1, g2, g3, g4⟩, h2, h3⟩ := h
  refine (aqRecv_calls g1).mono ?_
  rintro e v' ⟨A, d, rfl, rd, T, kp⟩
  obtain ⟨h1', F', on, hd, hs⟩ := AqOne.of_turn g2 g3 g4 T
  exact ⟨A, d, rfl, rd, ⟨R, h1', h2.only on (fun k hk hF => hd k hF (.inl hk)), h3⟩, kp⟩
/-- the order turns -/
theorem Duo.turnR {o' : Od} (h : AqOne (fun k => G k ∨ H k) w v b s) {R : Nat → Prop} (hR : ∀ k, R k ↔ G k) (h3 : ∀ k, R k → w.heap.size ≤ k ∧ ¬ H k) (T : RoTurn R pr o' v v') : Duo H w v' b pr s o' := by
  obtain ⟨F, g1, g2, g3, g4⟩ := h
  have on := T.2
  have hs := on.size
  refine ⟨more R v v', ⟨F, g1.only on (fun k hk e => (g2 k hk).2 (.inl ((hR k).1 e))), fun k hk => ⟨(g2 k hk).1, fun e => ?_⟩, g3.trans (on.below (fun k hk => (h3 k hk).1) g3.size), fun k hk => ?_⟩, T.1, fun k hk => ?_⟩
  · have := g1.lt k hk
    rcases e with (e | e) | e
    · exact (g2 k hk).2 (.inl ((hR k).1 e))
    · omega
    · exact (g2 k hk).2 (.inr e)
  · rcases hk with (e | e) | e
    · exact Nat.lt_of_lt_of_le (g4 k (.inl ((hR k).1 e))) hs
    · exact e.2
    · exact Nat.lt_of_lt_of_le (g4 k (.inr e)) hs
  · rcases hk with e | e
    · exact h3 k e
    · exact ⟨Nat.le_trans g3.size e.1, fun e2 => by have := g4 k (.inr e2); omega⟩
theorem Duo.put (h : Duo G w v b pr s o) (hall : o.all ≤ 99999) (n : Int) (hn : I64 n) (X : Option Addr) (c9 : Nat) (x : List UInt8) (hr : Rd v X x) (hx : x.length ≤ 1048576) :
    Calls Try.prog 34 #[.pointer (some ⟨pr, 0, none⟩), .int .i64 n, .slice X x.length c9] v fun r v' => r = .returned (.int .i64 (o.putN n x)) ∧ Duo G w v' b pr s (o.put n x) := by
  obtain ⟨R, h1, h2, h3⟩ := h
  refine (roPut_calls h2 hall n hn X c9 x hr hx).mono ?_
  rintro r v' ⟨rfl, T⟩
  exact ⟨rfl, Duo.turnR h1 (fun _ => Iff.rfl) h3 T⟩
theorem Duo.take (h : Duo G w v b pr s o) (hall : o.all ≤ 100000) : Calls Try.prog 37 #[.pointer (some ⟨pr, 0, none⟩)] v fun e v' => ∃ A c, e = .returned (.tuple #[.slice A o.takeX.length c, .bool o.takeB]) ∧ Rd v' A o.takeX ∧ Duo G w v' b pr s o.take := by
  obtain ⟨R, h1, h2, h3⟩ := h
  refine (roTake_calls h2 hall).mono ?_
  rintro e v' ⟨A, c, rfl, rd, T, -⟩
  exact ⟨A, c, rfl, rd, Duo.turnR h1 (fun _ => Iff.rfl) h3 T⟩
theorem Duo.next (h : Duo G w v b pr s o) : Calls Try.prog 36 #[.pointer (some ⟨pr, 0, none⟩)] v fun e v' => e = .returned (.int .i64 (o.e : Int)) ∧ v' = v := by
  obtain ⟨R, h1, h2, h3⟩ := h
  exact roNext_calls h2
theorem Duo.gap (h : Duo G w v b pr s o) : Calls Try.prog 35 #[.pointer (some ⟨pr, 0, none⟩)] v fun e v' => e = .returned (.bool o.gap) ∧ v' = v := by
  obtain ⟨R, h1, h2, h3⟩ := h
  exact roGap_calls h2
/-- the end alone, and a new order of the reference -/
theorem Duo.start (h : AqOne G w v b s) (m W : Int) : Duo G w (v.alloc (.cells (roc (Od.new m W).m (Od.new m W).W 0 none 0 0 none 0 0) 95)) b v.heap.size s (Od.new m W) := by
  have hb : Below v.heap.size v (v.alloc (.cells (roc (Od.new m W).m (Od.new m W).W 0 none 0 0 none 0 0) 95)) := (Below.refl _ _).alloc (Nat.le_refl _) _
  have hs : (v.alloc (.cells (roc (Od.new m W).m (Od.new m W).W 0 none 0 0 none 0 0) 95)).heap.size = v.heap.size + 1 := Array.size_push ..
  obtain ⟨F, g1, g2, g3, g4⟩ := h
  have hF := g1.lt
  refine ⟨fun k => k = v.heap.size, ⟨F, g1.below hb, fun k hk => ⟨(g2 k hk).1, fun e => e.elim (fun e => by have := hF k hk; omega) (g2 k hk).2⟩, g3.trans (hb.mono g3.size), fun k hk => hk.elim (fun e => by omega) (fun e => by have := g4 k e; omega)⟩, RoP.fresh v m W, fun k hk => ⟨by have := g3.size; omega, fun e => by have := g4 k e; omega⟩⟩
end
end Go.Proofs.Ytdidmpimlodffaa

/- Package arq walked, part 12 of 15 (merged texts: AqGive, AqAlive, PairPlain, PairMem). No condition. -/
import Derived.Test.YtgkdabllaankcaaG11
import Derived.Test.YtgkdabllaankcaaG1
/- Send, Output, Inds, Recv of an end of a session. Condition: room for the outputs and indications. -/
namespace Go.Proofs.Ytgkdabllaankcaa
open Go.RowKit
set_option linter.unusedVariables false

theorem Pc.kin {w : World} {F H : Nat → Prop} {v : Value} {x : List UInt8} (hH : ∀ k, F k → (∃ cur, w.heap[k]? = some (.cells cur 5 (0, 0))) → H k) (h : Pc w F v x) : Pc w H v x := by
  obtain ⟨B, d, h1, h2, h3⟩ := h
  exact ⟨B, d, h1, h2, fun k hk => hH k (h3 k hk) (h2.type k hk)⟩
theorem Pcs.kin {w : World} {F H : Nat → Prop} (hH : ∀ k, F k → (∃ cur, w.heap[k]? = some (.cells cur 5 (0, 0))) → H k) : ∀ {vs : List Value} {l : List (List UInt8)}, Pcs w F vs l → Pcs w H vs l
  | [], [], _ => trivial
  | _ :: _, _ :: _, h => ⟨h.1.kin hH, Pcs.kin hH h.2⟩
  | [], _ :: _, h => h.elim
  | _ :: _, [], h => h.elim
section
variable {w : World} {F : Nat → Prop} {b : Nat} {s : Aq}
theorem give_full (l : Lg) (x : List UInt8) : l.addE = (if l.full then 6 else 0) ∧ (l.full = true → l.add x = l) := ⟨rfl, fun h => by unfold Lg.add; rw [if_pos h]⟩
set_option maxRecDepth 20000 in
set_option maxHeartbeats 1000000 in
theorem aqGive_calls (h : AqP w F b s) (hf : s.os.length + (s.lg.W - s.lg.n) ≤ 1000000) (hsn : s.sn ≤ 1000000000000) (X : Option Addr) (e : Nat) (x : List UInt8) (hr : Rd w X x) (hx : x.length ≤ 1048576) :
    Calls Try.prog 11 #[.pointer (some ⟨b, 0, none⟩), .slice X x.length e] w fun r w' => r = .returned (.int .i64 (s.giveE x)) ∧ AqTurn F b (s.give x) w w' := by
  have c3 := h.c3
  have c4 := h.c4
  have TR := Lib.hid (AqTurn.refl h)
  by_cases h1 : s.sz < x.length
  · have es : s.give x = s := by unfold Aq.give; rw [if_pos h1]
    have ee : s.giveE x = 5 := by unfold Aq.giveE; rw [if_pos h1]
    rw [es, ee]
    have g : (s.sz : Int) < (x.length : Int) := by omega
    clear h hf es ee h1 hr
    generalize s.sz = n at *
    go_enter Try.func11, Try.ntmps11
    go_wp2
    go_ret
    exact ⟨rfl, TR.out⟩
  by_cases h2 : s.st = 2
  · have g : ¬ (s.sz : Int) < (x.length : Int) := by omega
    obtain ⟨FL, R, L, hFL, conv⟩ := h.log
    have AD := alAdd_calls L X e x hr hx
    have ok1 := h.2.add (x := x) (by have := h.2.szb; omega)
    cases hfu : s.lg.full
    · have es : s.give x = ((s.setLg (s.lg.add x)).setSn (s.sn + 1)).pump := by unfold Aq.give; rw [if_neg h1, if_neg (by simp [h2]), if_neg (by simp [hfu])]
      have ee : s.giveE x = 0 := by unfold Aq.giveE; rw [if_neg h1, if_neg (by simp [h2])]; unfold Lg.addE; rw [hfu]; rfl
      rw [es, ee]
      rw [show s.lg.addE = 0 by unfold Lg.addE; rw [hfu]; rfl] at AD
      have hWn : (s.lg.add x).W = s.lg.W ∧ (s.lg.add x).n = s.lg.n := by unfold Lg.add; split <;> exact ⟨rfl, rfl⟩
      have HM := Lib.hid (show ∀ w1, AlTurn FL b R (s.lg.add x) w w1 → AqTurn F b (s.setLg (s.lg.add x)) w w1 from fun w1 T => conv w1 _ T ok1)
      have HP := Lib.hid (show ((s.setLg (s.lg.add x)).setSn (s.sn + 1)).os.length + (((s.setLg (s.lg.add x)).setSn (s.sn + 1)).lg.W - ((s.setLg (s.lg.add x)).setSn (s.sn + 1)).lg.n) ≤ 1000000 from by
        show s.os.length + ((s.lg.add x).W - (s.lg.add x).n) ≤ 1000000
        rw [hWn.1, hWn.2]
        exact hf)
      rw [h2] at c4
      have HS : (s.setLg (s.lg.add x)).sn = s.sn := rfl
      clear es ee h1 h2 hf conv L hFL hr TR hfu hWn h ok1
      generalize s.sz = n at *
      go_enter Try.func11, Try.ntmps11
      go_wp2_with fail
      refine AD.mono ?_
      rintro e1 w1 ⟨rfl, T⟩
      have T1 := HM.out w1 T
      have c22 : w1.cell? ⟨b, 22, none⟩ = some (.int .i64 (s.sn : Int)) := T1.1.c22
      have z22 := T1.1.z 22
      obtain ⟨W2, hW2⟩ : ∃ W2, w1.setCell ⟨b, 22, none⟩ (.int .i64 ((s.sn : Int) + 1)) = W2 := ⟨_, rfl⟩
      have T2 : AqTurn F b ((s.setLg (s.lg.add x)).setSn (s.sn + 1)) w W2 := by rw [← hW2]; exact T1.thenSn (s.sn + 1)
      have PC := aqPump_calls T2.1 HP.out
      have HT2 := Lib.hid T2
      clear T T1 T2 AD HM HS
      go_wp2_with fail
      refine PC.mono ?_
      rintro e2 w3 ⟨rfl, T3⟩
      have FI := Lib.hid (HT2.out.trans T3)
      clear T3 PC
      go_wp2
      go_ret
      exact ⟨rfl, FI.out⟩
    · have es : s.give x = s := by unfold Aq.give; rw [if_neg h1, if_neg (by simp [h2]), if_pos hfu]
      have ee : s.giveE x = 6 := by unfold Aq.giveE; rw [if_neg h1, if_neg (by simp [h2])]; unfold Lg.addE; rw [hfu]; rfl
      rw [es, ee]
      rw [show s.lg.addE = 6 by unfold Lg.addE; rw [hfu]; rfl] at AD
      have HM := Lib.hid (show ∀ w1, AlTurn FL b R (s.lg.add x) w w1 → AqTurn F b s w w1 from fun w1 T => by
        have := conv w1 _ T ok1
        rw [show s.lg.add x = s.lg by unfold Lg.add; rw [if_pos hfu]] at this
        exact this)
      rw [h2] at c4
      clear es ee h1 h2 hf conv L hFL hr TR hfu h ok1
      generalize s.sz = n at *
      go_enter Try.func11, Try.ntmps11
      go_wp2_with fail
      refine AD.mono ?_
      rintro e1 w1 ⟨rfl, T⟩
      have FI := Lib.hid (HM.out w1 T)
      clear T AD HM
      go_wp2
      go_ret
      exact ⟨rfl, FI.out⟩
  · have es : s.give x = s := by unfold Aq.give; rw [if_neg h1, if_pos h2]
    have ee : s.giveE x = 7 := by unfold Aq.giveE; rw [if_neg h1, if_pos h2]
    rw [es, ee]
    have g : ¬ (s.sz : Int) < (x.length : Int) := by omega
    have g2 : ((s.st : Int) != 2) = true := by simp; omega
    clear h hf es ee h1 h2 hr
    generalize s.sz = n at *
    generalize s.st = t at *
    go_enter Try.func11, Try.ntmps11
    go_wp2
    go_ret
    exact ⟨rfl, TR.out⟩
/-- what Output returns: the row, whose blocks the end lets go -/
def AqGave (F : Nat → Prop) (b : Nat) (s : Aq) (w : World) (e : Ending) (w' : World) : Prop :=
  ∃ A c G F', e = .returned (.slice A s.os.length c) ∧ RowP w' G A c s.os ∧ AqP w' F' b s.output ∧ (∀ k, G k → F k) ∧ (∀ k, F' k → F k) ∧ (∀ k, F' k → ¬ G k) ∧ Only F w w'
theorem aqOutput_mem (h : AqP w F b s) : ∃ A c, w.cell? ⟨b, 20, none⟩ = some (.slice A s.os.length c) ∧ AqGave F b s w (.returned (.slice A s.os.length c)) (w.setCell ⟨b, 20, none⟩ (.slice none 0 0)) := by
  obtain ⟨⟨FL, FO, FU, sx, hq⟩, ok⟩ := h
  have ha := hq.isAq
  obtain ⟨p, h1, h2, ⟨h3, h4⟩, ⟨vs, h5, h5', h5''⟩, ⟨h6, h6'⟩⟩ := hq
  have on := only_set w ⟨b, 20, none⟩ (.slice none 0 0)
  have hn : ∀ k, k ≠ b → ¬ k = (⟨b, 20, none⟩ : Addr).block := fun k hk e => hk e
  let G : Nat → Prop := fun k => FU k ∧ ((∃ cur, w.heap[k]? = some (.cells cur 5 (0, 0))) ∨ ∃ cur, w.heap[k]? = some (.cells cur 39 (0, 0)))
  have gb : ¬ G b := fun e => by
    rcases e.2 with ⟨cur, t⟩ | ⟨cur, t⟩
    · exact types_apart (by decide) t h1
    · exact types_apart (by decide) t h1
  have gi : ∀ k, blk p.Ai = some k → ¬ G k := fun k hk e => by
    obtain ⟨cur', t'⟩ := h6.type k hk
    rcases e.2 with ⟨cur, t⟩ | ⟨cur, t⟩
    · exact types_apart (by decide) t t'
    · exact types_apart (by decide) t t'
  refine ⟨p.Ao, p.co, by rw [cell_of_row w b _ _ _ (0, 0) h1]; rfl, p.Ao, p.co, G, fun k => F k ∧ ¬ G k, rfl, ?_, ⟨⟨FL, FO, fun k => FU k ∧ ¬ G k, ⟨sx.lb, sx.ob, ⟨sx.ub, gb⟩, sx.lo, fun k hk hk' => sx.lu k hk hk'.1, fun k hk hk' => sx.ou k hk hk'.1, fun k => ⟨fun hk => ?_, fun hk => ?_⟩, fun k hk => Nat.lt_of_lt_of_le (sx.lt k hk.1) on.size⟩, ⟨p.A, p.c, p.B, p.Ar, p.cr, none, 0, p.Ai, p.ci⟩, ?_, h2.only ha on (fun k _ hk => hn k hk) (fun _ h => h), ⟨h3.only ha on (fun k _ hk => hn k hk) (fun _ h => h), h4.only ha on (fun k _ hk => hn k hk) (fun _ h => h)⟩, ⟨[], MidV.nil _ _, trivial, fun k hk => by simp [blk] at hk⟩, ?_⟩, ok.output⟩, fun k hk => (sx.all k).2 (.inr (.inr hk.1)), fun k hk => hk.1, fun k hk => hk.2, on.mono (fun k _ e => by rw [e]; exact (sx.all b).2 (.inl sx.lb))⟩
  · have R0 : RowP w G p.Ao p.co s.os := ⟨vs, h5, Pcs.kin (fun k hk ht => ⟨hk, .inl ht⟩) h5', fun k hk => ⟨h5'' k hk, .inr (h5.type k hk)⟩⟩
    exact R0.only ha on (fun k _ hk => hn k hk) (fun _ h => h)
  · rcases (sx.all k).1 hk.1 with h | h | h
    · exact .inl h
    · exact .inr (.inl h)
    · exact .inr (.inr ⟨h, hk.2⟩)
  · rcases hk with h | h | h
    · refine ⟨(sx.all k).2 (.inl h), fun e => ?_⟩
      have := sx.lu k h e.1
      subst this
      exact gb e
    · refine ⟨(sx.all k).2 (.inr (.inl h)), fun e => ?_⟩
      have := sx.ou k h e.1
      subst this
      exact gb e
    · exact ⟨(sx.all k).2 (.inr (.inr h.1)), h.2⟩
  · rw [heap_setCell_same w b 20 _ _ _ h1]
    rfl
  · have N0 : NumP w (fun k => FU k ∧ ¬ G k) p.Ai p.ci s.is := ⟨h6, fun k hk => ⟨h6' k hk, gi k hk⟩⟩
    exact N0.only ha on (fun k _ hk => hn k hk) (fun _ h => h)
theorem aqOutput_calls (h : AqP w F b s) : Calls Try.prog 24 #[.pointer (some ⟨b, 0, none⟩)] w (AqGave F b s w) := by
  obtain ⟨A, c, c20, G⟩ := aqOutput_mem h
  have z := h.z 20
  have FI := Lib.hid G
  clear G h
  generalize s.os.length = n at *
  go_enter Try.func24, Try.ntmps24
  go_wp2
  go_ret
  exact FI.out
/-- what Inds returns -/
def AqTold (F : Nat → Prop) (b : Nat) (s : Aq) (w : World) (e : Ending) (w' : World) : Prop :=
  ∃ A c G F', e = .returned (.slice A s.is.length c) ∧ NumP w' G A c s.is ∧ AqP w' F' b s.inds ∧ (∀ k, G k → F k) ∧ (∀ k, F' k → F k) ∧ (∀ k, F' k → ¬ G k) ∧ Only F w w'
theorem aqInds_mem (h : AqP w F b s) : ∃ A c, w.cell? ⟨b, 21, none⟩ = some (.slice A s.is.length c) ∧ AqTold F b s w (.returned (.slice A s.is.length c)) (w.setCell ⟨b, 21, none⟩ (.slice none 0 0)) := by
  obtain ⟨⟨FL, FO, FU, sx, hq⟩, ok⟩ := h
  have ha := hq.isAq
  obtain ⟨p, h1, h2, ⟨h3, h4⟩, ⟨vs, h5, h5', h5''⟩, ⟨h6, h6'⟩⟩ := hq
  have on := only_set w ⟨b, 21, none⟩ (.slice none 0 0)
  have hn : ∀ k, k ≠ b → ¬ k = (⟨b, 21, none⟩ : Addr).block := fun k hk e => hk e
  let G : Nat → Prop := fun k => FU k ∧ ∃ cur, w.heap[k]? = some (.cells cur 3 (0, 0))
  have gb : ¬ G b := fun e => by
    obtain ⟨cur, t⟩ := e.2
    exact types_apart (by decide) t h1
  refine ⟨p.Ai, p.ci, by rw [cell_of_row w b _ _ _ (0, 0) h1]; rfl, p.Ai, p.ci, G, fun k => F k ∧ ¬ G k, rfl, ?_, ⟨⟨FL, FO, fun k => FU k ∧ ¬ G k, ⟨sx.lb, sx.ob, ⟨sx.ub, gb⟩, sx.lo, fun k hk hk' => sx.lu k hk hk'.1, fun k hk hk' => sx.ou k hk hk'.1, fun k => ⟨fun hk => ?_, fun hk => ?_⟩, fun k hk => Nat.lt_of_lt_of_le (sx.lt k hk.1) on.size⟩, ⟨p.A, p.c, p.B, p.Ar, p.cr, p.Ao, p.co, none, 0⟩, ?_, h2.only ha on (fun k _ hk => hn k hk) (fun _ h => h), ⟨h3.only ha on (fun k _ hk => hn k hk) (fun _ h => h), h4.only ha on (fun k _ hk => hn k hk) (fun _ h => h)⟩, ?_, ⟨MidV.nil _ _, fun k hk => by simp [blk] at hk⟩⟩, ok.inds⟩, fun k hk => (sx.all k).2 (.inr (.inr hk.1)), fun k hk => hk.1, fun k hk => hk.2, on.mono (fun k _ e => by rw [e]; exact (sx.all b).2 (.inl sx.lb))⟩
  · have N0 : NumP w G p.Ai p.ci s.is := ⟨h6, fun k hk => ⟨h6' k hk, h6.type k hk⟩⟩
    exact N0.only ha on (fun k _ hk => hn k hk) (fun _ h => h)
  · rcases (sx.all k).1 hk.1 with h | h | h
    · exact .inl h
    · exact .inr (.inl h)
    · exact .inr (.inr ⟨h, hk.2⟩)
  · rcases hk with h | h | h
    · refine ⟨(sx.all k).2 (.inl h), fun e => ?_⟩
      have := sx.lu k h e.1
      subst this
      exact gb e
    · refine ⟨(sx.all k).2 (.inr (.inl h)), fun e => ?_⟩
      have := sx.ou k h e.1
      subst this
      exact gb e
    · exact ⟨(sx.all k).2 (.inr (.inr h.1)), h.2⟩
  · rw [heap_setCell_same w b 21 _ _ _ h1]
    rfl
  · have R0 : RowP w (fun k => FU k ∧ ¬ G k) p.Ao p.co s.os := ⟨vs, h5, Pcs.kin (fun k hk ht => ⟨hk, fun e => by
      obtain ⟨cur, t⟩ := ht
      obtain ⟨cur', t'⟩ := e.2
      exact types_apart (by decide) t t'⟩) h5', fun k hk => ⟨h5'' k hk, fun e => by
      obtain ⟨cur, t⟩ := h5.type k hk
      obtain ⟨cur', t'⟩ := e.2
      exact types_apart (by decide) t t'⟩⟩
    exact R0.only ha on (fun k _ hk => hn k hk) (fun _ h => h)
theorem aqInds_calls (h : AqP w F b s) : Calls Try.prog 31 #[.pointer (some ⟨b, 0, none⟩)] w (AqTold F b s w) := by
  obtain ⟨A, c, c21, G⟩ := aqInds_mem h
  have z := h.z 21
  have FI := Lib.hid G
  clear G h
  generalize s.is.length = n at *
  go_enter Try.func31, Try.ntmps31
  go_wp2
  go_ret
  exact FI.out
/-- what Recv returns, and what it leaves -/
def AqTook (F : Nat → Prop) (b : Nat) (s : Aq) (w : World) (e : Ending) (w' : World) : Prop :=
  ∃ A c, e = .returned (.tuple #[.slice A s.od.takeX.length c, .bool s.od.takeB]) ∧ Rd w' A s.od.takeX ∧ AqTurn F b s.recv w w' ∧ ∀ X z, Rd w X z → Rd w' X z
theorem aqRecv_calls (h : AqP w F b s) : Calls Try.prog 30 #[.pointer (some ⟨b, 0, none⟩)] w (AqTook F b s w) := by
  obtain ⟨FO, R, O, hFO, conv⟩ := h.ord
  have TC := aoTake_calls O
  have FI := Lib.hid (show ∀ A c w', Rd w' A s.od.takeX → AoP w' FO b R s.od.take → Only FO w w' → (∀ X z, Rd w X z → Rd w' X z) → AqTook F b s w (.returned (.tuple #[.slice A s.od.takeX.length c, .bool s.od.takeB])) w' from fun A c w' rd O' on kp => ⟨A, c, rfl, rd, conv w' _ (AoTurn.of_same O' on O.lt) h.2.recv, kp⟩)
  clear conv hFO h O
  unfold AoTook at TC
  generalize s.od.takeX = X at *
  generalize s.od.takeB = B at *
  generalize s.od.take = T at *
  go_enter Try.func30, Try.ntmps30
  go_wp2_with fail
  refine TC.mono ?_
  rintro e w1 ⟨A, c, rfl, rd, O', on, kp⟩
  have FJ := Lib.hid (FI.out A c w1 rd O' on kp)
  clear rd O' on kp TC FI
  generalize X.length = n at *
  go_wp2
  go_ret2
  exact FJ.out
end
end Go.Proofs.Ytgkdabllaankcaa
/- One end of a session and what a law keeps beside it; shape, num. No condition. -/
namespace Go.Proofs.Ytgkdabllaankcaa
open Go.RowKit
set_option linter.unusedVariables false

/-- The end at b is in the state s; its memory is new and none of what the law keeps (H); what was there before stands. -/
def AqOne (H : Nat → Prop) (w v : World) (b : Nat) (s : Aq) : Prop := ∃ F, AqP v F b s ∧ (∀ k, F k → w.heap.size ≤ k ∧ ¬ H k) ∧ Below w.heap.size w v ∧ ∀ k, H k → k < v.heap.size
/-- what a call of the end's leaves of the law's own -/
def Kept (H : Nat → Prop) (v v' : World) : Prop := ∃ F, Only F v v' ∧ (∀ k, F k → ¬ H k) ∧ v.heap.size ≤ v'.heap.size
section
variable {w v v' : World} {H G : Nat → Prop} {b : Nat} {s s' : Aq}
theorem AqOne.bel (h : AqOne H w v b s) : Below w.heap.size w v := by obtain ⟨F, h⟩ := h; exact h.2.2.1
theorem AqOne.ok (h : AqOne H w v b s) : s.Ok := by obtain ⟨F, h⟩ := h; exact h.1.2
theorem AqOne.turn (h : AqOne H w v b s) (hT : ∀ F, AqP v F b s → AqTurn F b s' v v') : AqOne H w v' b s' ∧ Kept H v v' := by
  obtain ⟨F, h1, h2, h3, h4⟩ := h
  have T := hT F h1
  have hs := T.on.size
  have hvs := h3.size
  refine ⟨⟨more F v v', T.st, fun k hk => ?_, h3.trans (T.on.below (fun k hk => (h2 k hk).1) hvs), fun k hk => Nat.lt_of_lt_of_le (h4 k hk) hs⟩, F, T.on, fun k hk => (h2 k hk).2, hs⟩
  rcases hk with hk | ⟨hk, _⟩
  · exact h2 k hk
  · exact ⟨Nat.le_trans hvs hk, fun hH => by have := h4 k hH; omega⟩
theorem AqOne.beside (h : AqOne H w v b s) (hb : Below v.heap.size v v') : AqOne H w v' b s := by
  obtain ⟨F, h1, h2, h3, h4⟩ := h
  exact ⟨F, h1.below hb, h2, h3.trans (hb.mono h3.size), fun k hk => Nat.lt_of_lt_of_le (h4 k hk) hb.size⟩
theorem AqOne.drewN (h : AqOne H w v b s) (n : Nat) : AqOne H w (v.drewN n) b s := h.beside ⟨rfl, rfl, rfl, Nat.le_refl _, fun _ _ => rfl⟩
/-- a call by its contract -/
theorem AqOne.call {f : Nat} {args : Array Value} {r : Ending} (h : AqOne H w v b s) (hc : ∀ F, AqP v F b s → (∀ k, F k → ¬ H k) → Calls Try.prog f args v fun e v' => e = r ∧ AqTurn F b s' v v') :
    Calls Try.prog f args v fun e v' => e = r ∧ AqOne H w v' b s' ∧ Kept H v v' := by
  have h0 := h
  obtain ⟨F, h1, h2, h3, h4⟩ := h
  refine (hc F h1 (fun k hk => (h2 k hk).2)).mono ?_
  rintro e v' ⟨rfl, T⟩
  refine ⟨rfl, ?_⟩
  have hs := T.on.size
  have hvs := h3.size
  refine ⟨⟨more F v v', T.st, fun k hk => ?_, h3.trans (T.on.below (fun k hk => (h2 k hk).1) hvs), fun k hk => Nat.lt_of_lt_of_le (h4 k hk) hs⟩, F, T.on, fun k hk => (h2 k hk).2, hs⟩
  rcases hk with hk | ⟨hk, _⟩
  · exact h2 k hk
  · exact ⟨Nat.le_trans hvs hk, fun hH => by have := h4 k hH; omega⟩
theorem AqOne.state (h : AqOne H w v b s) : Calls Try.prog 10 #[.pointer (some ⟨b, 0, none⟩)] v fun e v' => e = .returned (.int .i64 (s.st : Int)) ∧ v' = v := by
  obtain ⟨F, h1, _⟩ := h
  exact aqState_calls h1
theorem AqOne.connect (h : AqOne H w v b s) (hf : s.os.length ≤ 1000000) : Calls Try.prog 23 #[.pointer (some ⟨b, 0, none⟩)] v fun e v' => e = .returned (.int .i64 s.connectE) ∧ AqOne H w v' b s.connect ∧ Kept H v v' := h.call fun F hp _ => aqConnect_calls hp hf
/-- Output: the row is the law's own from here on -/
theorem AqOne.output (h : AqOne H w v b s) : Calls Try.prog 24 #[.pointer (some ⟨b, 0, none⟩)] v fun e v' => ∃ A c G, e = .returned (.slice A s.os.length c) ∧ RowP v' G A c s.os ∧ AqOne (fun k => H k ∨ G k) w v' b s.output ∧ Kept H v v' ∧ (∀ k, G k → w.heap.size ≤ k ∧ ¬ H k) := by
  obtain ⟨F, h1, h2, h3, h4⟩ := h
  refine (aqOutput_calls h1).mono ?_
  rintro e v' ⟨A, c, G, F', rfl, row, hp, hG, hF', hd, on⟩
  have hs := on.size
  have hvs := h3.size
  exact ⟨A, c, G, rfl, row, ⟨F', hp, fun k hk => ⟨(h2 k (hF' k hk)).1, fun h => h.elim (h2 k (hF' k hk)).2 (hd k hk)⟩, h3.trans (on.below (fun k hk => (h2 k hk).1) hvs), fun k hk => hk.elim (fun h => Nat.lt_of_lt_of_le (h4 k h) hs) (fun h => Nat.lt_of_lt_of_le (h1.lt k (hG k h)) hs)⟩, ⟨F, on, fun k hk => (h2 k hk).2, hs⟩, fun k hk => h2 k (hG k hk)⟩
/-- a new one -/
theorem AqOne.made {c : Cf} {e : Ending} (hm : AqMade c v e v') (bel : Below w.heap.size w v) (hH : ∀ k, H k → k < v.heap.size) : ∃ b, e = .returned (.pointer (some ⟨b, 0, none⟩)) ∧ AqOne H w v' b (Aq.newC c) ∧ Below v.heap.size v v' := by
  obtain ⟨b, F, rfl, hp, hF, hb⟩ := hm
  exact ⟨b, rfl, ⟨F, hp, fun k hk => ⟨Nat.le_trans bel.size (hF k hk), fun h => by have := hH k h; have := hF k hk; omega⟩, bel.trans (hb.mono bel.size), fun k hk => Nat.lt_of_lt_of_le (hH k hk) hb.size⟩, hb⟩
theorem Kept.of_below (h : Below v.heap.size v v') : Kept H v v' := ⟨fun _ => False, Only.of_below _ h, fun _ h => h.elim, h.size⟩
theorem Kept.row {A : Option Addr} {c : Nat} {l : List (List UInt8)} (k : Kept H v v') (h : RowP v H A c l) : RowP v' H A c l := by
  obtain ⟨F, on, hd, _⟩ := k
  obtain ⟨vs, h1, h2, h3⟩ := h
  exact ⟨vs, h1.only on (fun k hk hF => hd k hF (h3 k hk)), Pcs.only on (fun k hk _ hF => hd k hF hk) (fun _ h => h) h2, h3⟩
theorem RowP.wide {A : Option Addr} {c : Nat} {l : List (List UInt8)} (h : RowP v G A c l) (hG : ∀ k, G k → H k) : RowP v H A c l := by
  obtain ⟨vs, h1, h2, h3⟩ := h
  exact ⟨vs, h1, Pcs.only (G := fun _ => False) (Only.refl _ _) (fun _ _ _ h => h) hG h2, fun k hk => hG k (h3 k hk)⟩
/-- the i-th piece of a row in memory -/
theorem RowP.at_ {A : Option Addr} {c : Nat} {l : List (List UInt8)} (h : RowP v G A c l) {i : Nat} (hi : i < l.length) : ∃ g off B d, A = some ⟨g, off, none⟩ ∧ v.cell? ⟨g, off + i, none⟩ = some (.slice B (l.getD i []).length d) ∧ Rd v B (l.getD i []) ∧ Mid v B d (l.getD i []) ∧ (∀ k, blk B = some k → G k) ∧ G g := by
  obtain ⟨vs, h1, h2, h3⟩ := h
  obtain ⟨B, d, hv, hm, hF⟩ := h2.at_ hi
  obtain ⟨g, off, rfl, hc⟩ := h1.at_ hv
  exact ⟨g, off, B, d, rfl, hc, hm.rd, hm, hF, h3 g rfl⟩
end
theorem num_calls (n : Int) (w : World) : Calls Try.prog 12 #[.int .i64 n] w fun e w' => e = .returned (.int .i64 n) ∧ w' = w := by
  go_enter Try.func12, Try.ntmps12
  go_wp2
  go_ret
  exact ⟨rfl, rfl⟩
/-- the configuration of a law's -/
def shapeC (m W Q : Int) : Cf := ⟨0, m, W, 10, 3, 0, 0, 0, Q, 50, 0, 0, 0, 0, false, false⟩
theorem shape_calls (m W Q : Int) (w : World) : Calls Try.prog 8 #[.int .i64 m, .int .i64 W, .int .i64 Q] w fun e w' => e = .returned (cfv (shapeC m W Q)) ∧ Below w.heap.size w w' := by
  unfold cfv cfc shapeC
  go_enter Try.func8, Try.ntmps8
  go_wp2
  refine bodyPost_ret (v := .agg #[.int .i64 0, .int .i64 m, .int .i64 W, .int .i64 10, .int .i64 3, .int .i64 0, .int .i64 0, .int .i64 0, .int .i64 Q, .int .i64 50, .int .i64 0, .int .i64 0, .int .i64 0, .int .i64 0, .bool false, .bool false]) (by simp [results, Try.results8, go_sem]) rfl ⟨rfl, (Below.refl _ _).alloc (Nat.le_refl _) _⟩
theorem alive_os : ((Aq.newC (shapeC 128 4 4)).connect.os = [[0, 1, 127]] ∧ (Aq.newC (shapeC 128 4 4)).connect.st = 1) ∧ (Aq.newC (shapeC 128 4 4)).connectE = 0 := by decide +kernel
set_option maxRecDepth 20000 in
set_option maxHeartbeats 1000000 in
theorem alive_calls (w : World) : Calls Try.prog 7 #[] w fun e w' => e = .returned (.bool true) ∧ Below w.heap.size w w' := by
  obtain ⟨⟨a1, a2⟩, a3⟩ := alive_os
  have SC := shape_calls 128 4 4 w
  have NM := fun v => num_calls 0 v
  have NC := fun v => aqNew_calls (shapeC 128 4 4) v
  have CN := Lib.hid (show ∀ v b, AqOne (fun _ => False) w v b (Aq.newC (shapeC 128 4 4)) → Calls Try.prog 23 #[.pointer (some ⟨b, 0, none⟩)] v fun e v' => e = .returned (.int .i64 0) ∧ AqOne (fun _ => False) w v' b (Aq.newC (shapeC 128 4 4)).connect from fun v b h => (h.connect (by decide)).mono (by rintro e v' ⟨rfl, h1, _⟩; exact ⟨by rw [a3], h1⟩))
  unfold cfv at SC NC
  generalize (.agg (cfc (shapeC 128 4 4)) : Value) = CV at *
  obtain ⟨S0, hS0⟩ : ∃ S0, Aq.newC (shapeC 128 4 4) = S0 := ⟨_, rfl⟩
  rw [hS0] at CN a1 a2 a3
  have HS0 := Lib.hid hS0
  clear hS0
  generalize S0.connect = S1 at *
  go_enter Try.func7, Try.ntmps7
  go_wp2_with fail
  refine SC.mono ?_
  rintro e w1 ⟨rfl, be1⟩
  have HB1 := Lib.hid be1
  clear be1 SC
  go_wp2_with fail
  refine (NC w1).mono ?_
  rintro e w2 hm
  obtain ⟨b, rfl, h2, _⟩ := AqOne.made (H := fun _ => False) hm HB1.out (fun _ h => h.elim)
  rw [HS0.out] at h2
  have CC := CN.out w2 b h2
  clear hm h2 NC CN
  go_wp2_with fail
  refine CC.mono ?_
  rintro e w3 ⟨rfl, h3⟩
  have OC := h3.output
  rw [a1] at OC
  clear h3 CC
  go_wp2_with fail
  refine OC.mono ?_
  rintro e w4 ⟨A, c, G, rfl, row, h4, _, _⟩
  obtain ⟨g, off, B, d, rfl, k0, rd, _⟩ := row.at_ (i := 0) (by decide)
  rw [show ([[0, 1, 127]] : List (List UInt8)).getD 0 [] = [0, 1, 127] from rfl] at k0 rd
  have k0' : w4.cell? ⟨g, off, none⟩ = some (.slice B 3 d) := k0
  have q4 : (convert 39 9 (.slice B 3 d)).run Try.prog w4 = .ok (.string ⟨#[0, 1, 127]⟩) w4 := run_conv w4 B d [0, 1, 127] rd
  clear k0
  have ST := h4.state
  rw [show (S1.output).st = S1.st from rfl, a2] at ST
  have FI := Lib.hid h4.bel
  clear row h4 OC rd
  go_wp2_with fail
  refine (NM _).mono ?_
  rintro e w5 ⟨rfl, hv⟩
  obtain rfl := hv.symm
  go_wp2_with fail
  refine ST.mono ?_
  rintro e w6 ⟨rfl, hv⟩
  obtain rfl := hv.symm
  go_wp2
  go_ret
  exact ⟨rfl, FI.out⟩
end Go.Proofs.Ytgkdabllaankcaa
/- Two ends of a session and what is under way between them, plainly. No condition. -/
namespace Go.Proofs.Ytgkdabllaankcaa
set_option linter.unusedVariables false

/-- Two ends, what is under way from each, what each received, what each took, how many indications told of an end. -/
structure Pr where
  a : Bool → Aq
  way : Bool → List (List UInt8)
  heard : Bool → List (List UInt8)
  said : Bool → List (List UInt8)
  downs : Nat
/-- one of two turns -/
def bset {α : Type} (f : Bool → α) (i : Bool) (x : α) : Bool → α := fun j => if j = i then x else f j
section
variable {α : Type} {f : Bool → α} {i j : Bool} {x y : α}
theorem bset_same : bset f i x i = x := if_pos rfl
theorem bset_other (h : j ≠ i) : bset f i x j = f j := if_neg h
theorem bset_not : bset f i x (!i) = f (!i) := bset_other (by cases i <;> decide)
theorem bset_not' : bset f (!i) x i = f i := bset_other (by cases i <;> decide)
theorem bset_self : bset f i (f i) = f := by funext j; cases i <;> cases j <;> rfl
theorem bset_twice : bset (bset f i x) i y = bset f i y := by funext j; cases i <;> cases j <;> rfl
theorem bset_swap : bset (bset f i x) (!i) y = bset (bset f (!i) y) i x := by funext j; cases i <;> cases j <;> rfl
end
/-- how many indications tell of an end -/
def dn (l : List Nat) : Nat := (l.filter fun x => decide (x ≠ 1)).length
theorem dn_snoc (l : List Nat) (x : Nat) : dn (l ++ [x]) = dn l + if x ≠ 1 then 1 else 0 := by
  unfold dn
  rw [List.filter_append, List.length_append]
  by_cases h : x = 1
  · simp [h]
  · simp [h]
theorem dn_take {l : List Nat} {j : Nat} (h : j < l.length) : dn (l.take (j + 1)) = dn (l.take j) + if l.getD j 0 ≠ 1 then 1 else 0 := by
  have e : l.take (j + 1) = l.take j ++ [l.getD j 0] := by rw [List.take_add_one, List.getD_eq_getElem?_getD, List.getElem?_eq_getElem h]; rfl
  rw [e, dn_snoc]
theorem dn_le (l : List Nat) : dn l ≤ l.length := List.length_filter_le _ _
/-- all that was ready was taken -/
def Od.dry (o : Od) : Od := { o with r := [] }
namespace Aq
def dry (s : Aq) : Aq := { s with os := [], is := [], od := s.od.dry }
end Aq
namespace Pr
variable (p : Pr) (i : Bool)
def setA (s : Aq) : Pr := { p with a := bset p.a i s }
def setWay (l : List (List UInt8)) : Pr := { p with way := bset p.way i l }
def setHeard (l : List (List UInt8)) : Pr := { p with heard := bset p.heard i l }
def setSaid (l : List (List UInt8)) : Pr := { p with said := bset p.said i l }
def setDowns (n : Nat) : Pr := { p with downs := n }
/-- all that one has told -/
def drain : Pr := ⟨bset p.a i (p.a i).dry, bset p.way i (p.way i ++ (p.a i).os), bset p.heard i (p.heard i ++ (p.a i).od.r), p.said, p.downs + dn (p.a i).is⟩
def collect : Pr := (p.drain false).drain true
/-- the first that is under way from one comes to the other; or is lost -/
def carry (lost : Bool) : Pr := match p.way i with
  | [] => p
  | x :: l => (if lost then p.setWay i l else (p.setWay i l).setA (!i) ((p.a (!i)).input x)).collect
/-- the three parts of a drain -/
def drainW : Pr := (p.setA i (p.a i).output).setWay i (p.way i ++ (p.a i).os)
def drainH : Pr := (p.setA i ((p.a i).setOd (p.a i).od.dry)).setHeard i (p.heard i ++ (p.a i).od.r)
def drainI : Pr := (p.setA i (p.a i).inds).setDowns (p.downs + dn (p.a i).is)
/-- one message is received -/
def hear : Pr := (p.setA i (p.a i).recv).setHeard i (p.heard i ++ [(p.a i).od.takeX])
theorem hear_r {x : List UInt8} {l : List (List UInt8)} (h : (p.a i).od.r = x :: l) : ((p.hear i).a i).od.r = l ∧ (p.hear i).heard i = p.heard i ++ [x] ∧ (p.hear i).way = p.way ∧ (p.hear i).said = p.said := by
  unfold hear setA setHeard Aq.recv Aq.setOd Od.take Od.takeX
  simp only [bset_same, h]
  exact ⟨rfl, rfl, trivial, trivial⟩
theorem drain_parts : ((p.drainW i).drainH i).drainI i = p.drain i := by
  unfold drainW drainH drainI drain setA setWay setHeard setDowns
  simp only [bset_same, bset_twice]
  rfl
theorem drainH_hear {x : List UInt8} {l : List (List UInt8)} (h : (p.a i).od.r = x :: l) : (p.hear i).drainH i = p.drainH i := by
  unfold hear drainH setA setHeard Aq.recv Aq.setOd Od.take Od.dry Od.takeX
  simp only [bset_same, bset_twice, h]
  simp
theorem drainH_nil (h : (p.a i).od.r = []) : p.drainH i = p := by
  unfold drainH setA setHeard Aq.setOd Od.dry
  rw [h, List.append_nil, bset_self]
  have : ({ (p.a i) with od := { (p.a i).od with r := [] } } : Aq) = p.a i := by
    rw [← h]
  rw [this, bset_self]
/-- two ends that are new -/
def start (c0 c1 : Aq) : Pr := ⟨fun i => if i then c1 else c0, fun _ => [], fun _ => [], fun _ => [], 0⟩
end Pr
end Go.Proofs.Ytgkdabllaankcaa
/- Two ends of a session in memory, what is under way between them, what each received and took: by a mark on every block; what one part's turn leaves. No condition. -/
namespace Go.Proofs.Ytgkdabllaankcaa
open Go.RowKit
set_option linter.unusedVariables false

/-- whose a block is: nobody's, the pair's own, an end's, a way's, what was heard, what was said -/
inductive Lb | no | me | en (i : Bool) | wy (i : Bool) | hr (i : Bool) | sd (i : Bool)
deriving DecidableEq
theorem etStr : ET 33 9 (.string ⟨#[]⟩) 16 := ⟨Try.underlying33, by kernel_rfl, rfl, by decide⟩
/-- a row of strings in F -/
def StrP (w : World) (F : Nat → Prop) (A : Option Addr) (c : Nat) (l : List (List UInt8)) : Prop := MidV 9 w A c (l.map strV) ∧ ∀ k, blk A = some k → F k
section
variable {w w' : World} {F G H : Nat → Prop} {A : Option Addr} {c : Nat} {l : List (List UInt8)}
theorem RowP.only0 (h : RowP w F A c l) (on : Only G w w') (hd : ∀ k, F k → ¬ G k) (hH : ∀ k, F k → H k) : RowP w' H A c l := by
  obtain ⟨vs, h1, h2, h3⟩ := h
  exact ⟨vs, h1.only on (fun k hk => hd k (h3 k hk)), Pcs.only on (fun k hk _ => hd k hk) hH h2, fun k hk => hH k (h3 k hk)⟩
theorem StrP.only0 (h : StrP w F A c l) (on : Only G w w') (hd : ∀ k, F k → ¬ G k) (hH : ∀ k, F k → H k) : StrP w' H A c l :=
  ⟨h.1.only on (fun k hk => hd k (h.2 k hk)), fun k hk => hH k (h.2 k hk)⟩
end
/-- where the rows of a pair lie -/
structure Pw where
  A : Bool → Option Addr
  c : Bool → Nat
  B : Bool → Option Addr
  d : Bool → Nat
  C : Bool → Option Addr
  e : Bool → Nat
def prc (b : Bool → Nat) (p : Pr) (q : Pw) : Array Value :=
  #[.pointer (some ⟨b false, 0, none⟩), .pointer (some ⟨b true, 0, none⟩), .slice (q.A false) (p.way false).length (q.c false), .slice (q.A true) (p.way true).length (q.c true),
    .slice (q.B false) (p.heard false).length (q.d false), .slice (q.B true) (p.heard true).length (q.d true), .slice (q.C false) (p.said false).length (q.e false), .slice (q.C true) (p.said true).length (q.e true), .int .i64 (p.downs : Int)]
/-- The block P holds the pair p, whose ends are at b; t marks the blocks. -/
structure PrP (w : World) (t : Nat → Lb) (P : Nat) (b : Bool → Nat) (p : Pr) : Prop where
  me : t P = .me
  ends : ∀ i, AqP w (fun k => t k = .en i) (b i) (p.a i)
  lt : ∀ k, t k ≠ .no → k < w.heap.size
  rows : ∃ q : Pw, w.heap[P]? = some (.cells (prc b p q) 36 (0, 0)) ∧ (∀ i, RowP w (fun k => t k = .wy i) (q.A i) (q.c i) (p.way i)) ∧ (∀ i, StrP w (fun k => t k = .hr i) (q.B i) (q.d i) (p.heard i)) ∧ (∀ i, StrP w (fun k => t k = .sd i) (q.C i) (q.e i) (p.said i))
/-- the marks turn: just S bears L -/
noncomputable def relabel (t : Nat → Lb) (L : Lb) (S : Nat → Prop) : Nat → Lb := fun k => open Classical in if S k then L else if t k = L then .no else t k
section
variable {t : Nat → Lb} {L M : Lb} {S : Nat → Prop}
theorem relabel_same (hL : L ≠ .no) (k : Nat) : relabel t L S k = L ↔ S k := by
  unfold relabel
  constructor
  · intro h
    split at h
    · assumption
    · split at h
      · exact (hL h.symm).elim
      · contradiction
  · intro h
    rw [if_pos h]
theorem relabel_other (hS : ∀ k, S k → t k = .no ∨ t k = L) (hM : M ≠ .no) (hML : M ≠ L) (k : Nat) : relabel t L S k = M ↔ t k = M := by
  unfold relabel
  constructor
  · intro h
    split at h
    · exact (hML h.symm).elim
    · split at h
      · exact (hM h.symm).elim
      · exact h
  · intro h
    have h1 : ¬ S k := fun hs => (hS k hs).elim (fun e => hM (h.symm.trans e)) (fun e => hML (h.symm.trans e))
    rw [if_neg h1, if_neg (fun e => hML (h.symm.trans e)), h]
theorem relabel_set (hS : ∀ k, S k → t k = .no ∨ t k = L) (hM : M ≠ .no) (hML : M ≠ L) : (fun k => relabel t L S k = M) = fun k => t k = M := funext fun k => propext (relabel_other hS hM hML k)
theorem relabel_setS (hL : L ≠ .no) : (fun k => relabel t L S k = L) = S := funext fun k => propext (relabel_same hL k)
theorem relabel_no {k : Nat} (h : relabel t L S k ≠ .no) : S k ∨ t k ≠ .no := by
  unfold relabel at h
  split at h
  · exact .inl ‹_›
  · split at h
    · exact (h rfl).elim
    · exact .inr h
end
/-- the pair, its memory new and none of what the law keeps (H) -/
def PrOne (H : Nat → Prop) (w v : World) (P : Nat) (b : Bool → Nat) (p : Pr) : Prop := ∃ t, PrP v t P b p ∧ (∀ k, t k ≠ .no → w.heap.size ≤ k ∧ ¬ H k) ∧ Below w.heap.size w v ∧ ∀ k, H k → k < v.heap.size
section
variable {w v v' : World} {H G : Nat → Prop} {P : Nat} {b : Bool → Nat} {p : Pr} {t : Nat → Lb} {i : Bool} {s : Aq}
theorem PrP.only (h : PrP v t P b p) (on : Only G v v') (hd : ∀ k, t k ≠ .no → ¬ G k) : PrP v' t P b p := by
  obtain ⟨h1, h2, h3, q, h4, h5, h6, h7⟩ := h
  have n : ∀ {L : Lb}, L ≠ .no → ∀ k, t k = L → ¬ G k := fun hL k hk => hd k (fun e => hL (hk.symm.trans e))
  exact ⟨h1, fun i => (h2 i).only on (n (by simp)), fun k hk => Nat.lt_of_lt_of_le (h3 k hk) on.size, q, (on.block P (lt_of_block h4) (hd P (by rw [h1]; simp))).trans h4,
    fun i => (h5 i).only0 on (n (by simp)) (fun _ h => h), fun i => (h6 i).only0 on (n (by simp)) (fun _ h => h), fun i => (h7 i).only0 on (n (by simp)) (fun _ h => h)⟩
/-- an end turns -/
theorem PrP.turnA {F' : Nat → Prop} (h : PrP v t P b p) (on : Only G v v') (hG : ∀ k, G k → t k = .no ∨ t k = .en i) (hF : AqP v' F' (b i) s) (hF' : ∀ k, F' k → t k = .no ∨ t k = .en i) : PrP v' (relabel t (.en i) F') P b (p.setA i s) := by
  obtain ⟨h1, h2, h3, q, h4, h5, h6, h7⟩ := h
  have n : ∀ {L : Lb}, L ≠ .no → L ≠ .en i → ∀ k, t k = L → ¬ G k := fun hL hM k hk hg => (hG k hg).elim (fun e => hL (hk.symm.trans e)) (fun e => hM (hk.symm.trans e))
  refine ⟨(relabel_other hF' (by simp) (by simp) P).2 h1, fun j => ?_, fun k hk => ?_, q, ?_, fun j => ?_, fun j => ?_, fun j => ?_⟩
  · by_cases e : j = i
    · subst e
      rw [relabel_setS (by simp)]
      show AqP v' F' (b j) (bset p.a j s j)
      rw [bset_same]
      exact hF
    · rw [relabel_set hF' (by simp) (by simpa using e)]
      show AqP v' _ (b j) (bset p.a i s j)
      rw [bset_other e]
      exact (h2 j).only on (n (by simp) (by simpa using e))
  · rcases relabel_no hk with hk | hk
    · exact hF.lt k hk
    · exact Nat.lt_of_lt_of_le (h3 k hk) on.size
  · rw [on.block P (lt_of_block h4) (n (L := .me) (by simp) (by simp) P h1), h4]
    rfl
  · rw [relabel_set hF' (by simp) (by simp)]
    exact (h5 j).only0 on (n (by simp) (by simp)) (fun _ h => h)
  · rw [relabel_set hF' (by simp) (by simp)]
    exact (h6 j).only0 on (n (by simp) (by simp)) (fun _ h => h)
  · rw [relabel_set hF' (by simp) (by simp)]
    exact (h7 j).only0 on (n (by simp) (by simp)) (fun _ h => h)
theorem PrP.cell (h : PrP v t P b p) : ∃ q, v.heap[P]? = some (.cells (prc b p q) 36 (0, 0)) := by obtain ⟨_, _, _, q, h4, _⟩ := h; exact ⟨q, h4⟩
theorem PrP.memP (h : PrP v t P b p) : P < v.heap.size := h.lt P (by rw [h.me]; simp)
/-- a way has another row -/
theorem PrP.setWay {S : Nat → Prop} {A' : Option Addr} {c' : Nat} {l' : List (List UInt8)} (h : PrP v t P b p) (on : Only G v v') (hG : ∀ k, G k → t k = .no ∨ t k = .wy i) (hR : RowP v' S A' c' l') (hS : ∀ k, S k → t k = .no ∨ t k = .wy i) (hlt : ∀ k, S k → k < v'.heap.size) :
    v'.frozen? ⟨P, 2 + i.toNat, none⟩ = false ∧ PrP (v'.setCell ⟨P, 2 + i.toNat, none⟩ (.slice A' l'.length c')) (relabel t (.wy i) S) P b (p.setWay i l') := by
  obtain ⟨h1, h2, h3, q, h4, h5, h6, h7⟩ := h
  have n : ∀ {L : Lb}, L ≠ .no → L ≠ .wy i → ∀ k, t k = L → ¬ G k := fun hL hM k hk hg => (hG k hg).elim (fun e => hL (hk.symm.trans e)) (fun e => hM (hk.symm.trans e))
  have h4' := (on.block P (lt_of_block h4) (n (L := .me) (by simp) (by simp) P h1)).trans h4
  have on2 := only_set v' ⟨P, 2 + i.toNat, none⟩ (.slice A' l'.length c')
  have n2 : ∀ {L : Lb}, L ≠ .me → ∀ k, t k = L → ¬ k = (⟨P, 2 + i.toNat, none⟩ : Addr).block := fun hL k hk e => hL (hk.symm.trans ((congrArg t e).trans h1))
  have nS : ∀ k, S k → ¬ k = (⟨P, 2 + i.toNat, none⟩ : Addr).block := fun k hk e => by
    have h1' : t k = .me := (congrArg t e).trans h1
    rcases hS k hk with h | h
    · rw [h1'] at h; cases h
    · rw [h1'] at h; cases h
  refine ⟨frozen_of_row v' P _ _ _ h4', (relabel_other hS (by simp) (by simp) P).2 h1, fun j => ?_, fun k hk => ?_, ⟨bset q.A i A', bset q.c i c', q.B, q.d, q.C, q.e⟩, ?_, fun j => ?_, fun j => ?_, fun j => ?_⟩
  · rw [relabel_set hS (by simp) (by simp)]
    exact ((h2 j).only on (n (by simp) (by simp))).only on2 (n2 (by simp))
  · rcases relabel_no hk with hk | hk
    · exact Nat.lt_of_lt_of_le (hlt k hk) on2.size
    · exact Nat.lt_of_lt_of_le (h3 k hk) (Nat.le_trans on.size on2.size)
  · rw [heap_setCell_same v' P _ _ _ _ h4']
    cases i <;> rfl
  · by_cases e : j = i
    · subst e
      rw [relabel_setS (by simp)]
      show RowP _ S (bset q.A j A' j) (bset q.c j c' j) (bset p.way j l' j)
      rw [bset_same, bset_same, bset_same]
      exact hR.only0 on2 nS (fun _ h => h)
    · rw [relabel_set hS (by simp) (by simpa using e)]
      show RowP _ _ (bset q.A i A' j) (bset q.c i c' j) (bset p.way i l' j)
      rw [bset_other e, bset_other e, bset_other e]
      exact ((h5 j).only0 on (n (by simp) (by simpa using e)) (fun _ h => h)).only0 on2 (n2 (by simp)) (fun _ h => h)
  · rw [relabel_set hS (by simp) (by simp)]
    exact ((h6 j).only0 on (n (by simp) (by simp)) (fun _ h => h)).only0 on2 (n2 (by simp)) (fun _ h => h)
  · rw [relabel_set hS (by simp) (by simp)]
    exact ((h7 j).only0 on (n (by simp) (by simp)) (fun _ h => h)).only0 on2 (n2 (by simp)) (fun _ h => h)
/-- a row of strings has turned -/
theorem PrP.setHeard {S : Nat → Prop} {A' : Option Addr} {c' : Nat} {l' : List (List UInt8)} (h : PrP v t P b p) (on : Only G v v') (hG : ∀ k, G k → t k = .no ∨ t k = .hr i) (hR : StrP v' S A' c' l') (hS : ∀ k, S k → t k = .no ∨ t k = .hr i) (hlt : ∀ k, S k → k < v'.heap.size) :
    v'.frozen? ⟨P, 4 + i.toNat, none⟩ = false ∧ PrP (v'.setCell ⟨P, 4 + i.toNat, none⟩ (.slice A' l'.length c')) (relabel t (.hr i) S) P b (p.setHeard i l') := by
  obtain ⟨h1, h2, h3, q, h4, h5, h6, h7⟩ := h
  have n : ∀ {L : Lb}, L ≠ .no → L ≠ .hr i → ∀ k, t k = L → ¬ G k := fun hL hM k hk hg => (hG k hg).elim (fun e => hL (hk.symm.trans e)) (fun e => hM (hk.symm.trans e))
  have h4' := (on.block P (lt_of_block h4) (n (L := .me) (by simp) (by simp) P h1)).trans h4
  have on2 := only_set v' ⟨P, 4 + i.toNat, none⟩ (.slice A' l'.length c')
  have n2 : ∀ {L : Lb}, L ≠ .me → ∀ k, t k = L → ¬ k = (⟨P, 4 + i.toNat, none⟩ : Addr).block := fun hL k hk e => hL (hk.symm.trans ((congrArg t e).trans h1))
  have nS : ∀ k, S k → ¬ k = (⟨P, 4 + i.toNat, none⟩ : Addr).block := fun k hk e => by
    have h1' : t k = .me := (congrArg t e).trans h1
    rcases hS k hk with h | h
    · rw [h1'] at h; cases h
    · rw [h1'] at h; cases h
  refine ⟨frozen_of_row v' P _ _ _ h4', (relabel_other hS (by simp) (by simp) P).2 h1, fun j => ?_, fun k hk => ?_, ⟨q.A, q.c, bset q.B i A', bset q.d i c', q.C, q.e⟩, ?_, fun j => ?_, fun j => ?_, fun j => ?_⟩
  · rw [relabel_set hS (by simp) (by simp)]
    exact ((h2 j).only on (n (by simp) (by simp))).only on2 (n2 (by simp))
  · rcases relabel_no hk with hk | hk
    · exact Nat.lt_of_lt_of_le (hlt k hk) on2.size
    · exact Nat.lt_of_lt_of_le (h3 k hk) (Nat.le_trans on.size on2.size)
  · rw [heap_setCell_same v' P _ _ _ _ h4']
    cases i <;> rfl
  · rw [relabel_set hS (by simp) (by simp)]
    exact ((h5 j).only0 on (n (by simp) (by simp)) (fun _ h => h)).only0 on2 (n2 (by simp)) (fun _ h => h)
  · by_cases e : j = i
    · subst e
      rw [relabel_setS (by simp)]
      show StrP _ S (bset q.B j A' j) (bset q.d j c' j) (bset p.heard j l' j)
      rw [bset_same, bset_same, bset_same]
      exact hR.only0 on2 nS (fun _ h => h)
    · rw [relabel_set hS (by simp) (by simpa using e)]
      show StrP _ _ (bset q.B i A' j) (bset q.d i c' j) (bset p.heard i l' j)
      rw [bset_other e, bset_other e, bset_other e]
      exact ((h6 j).only0 on (n (by simp) (by simpa using e)) (fun _ h => h)).only0 on2 (n2 (by simp)) (fun _ h => h)
  · rw [relabel_set hS (by simp) (by simp)]
    exact ((h7 j).only0 on (n (by simp) (by simp)) (fun _ h => h)).only0 on2 (n2 (by simp)) (fun _ h => h)
/-- a row of strings has turned -/
theorem PrP.setSaid {S : Nat → Prop} {A' : Option Addr} {c' : Nat} {l' : List (List UInt8)} (h : PrP v t P b p) (on : Only G v v') (hG : ∀ k, G k → t k = .no ∨ t k = .sd i) (hR : StrP v' S A' c' l') (hS : ∀ k, S k → t k = .no ∨ t k = .sd i) (hlt : ∀ k, S k → k < v'.heap.size) :
    v'.frozen? ⟨P, 6 + i.toNat, none⟩ = false ∧ PrP (v'.setCell ⟨P, 6 + i.toNat, none⟩ (.slice A' l'.length c')) (relabel t (.sd i) S) P b (p.setSaid i l') := by
  obtain ⟨h1, h2, h3, q, h4, h5, h6, h7⟩ := h
  have n : ∀ {L : Lb}, L ≠ .no → L ≠ .sd i → ∀ k, t k = L → ¬ G k := fun hL hM k hk hg => (hG k hg).elim (fun e => hL (hk.symm.trans e)) (fun e => hM (hk.symm.trans e))
  have h4' := (on.block P (lt_of_block h4) (n (L := .me) (by simp) (by simp) P h1)).trans h4
  have on2 := only_set v' ⟨P, 6 + i.toNat, none⟩ (.slice A' l'.length c')
  have n2 : ∀ {L : Lb}, L ≠ .me → ∀ k, t k = L → ¬ k = (⟨P, 6 + i.toNat, none⟩ : Addr).block := fun hL k hk e => hL (hk.symm.trans ((congrArg t e).trans h1))
  have nS : ∀ k, S k → ¬ k = (⟨P, 6 + i.toNat, none⟩ : Addr).block := fun k hk e => by
    have h1' : t k = .me := (congrArg t e).trans h1
    rcases hS k hk with h | h
    · rw [h1'] at h; cases h
    · rw [h1'] at h; cases h
  refine ⟨frozen_of_row v' P _ _ _ h4', (relabel_other hS (by simp) (by simp) P).2 h1, fun j => ?_, fun k hk => ?_, ⟨q.A, q.c, q.B, q.d, bset q.C i A', bset q.e i c'⟩, ?_, fun j => ?_, fun j => ?_, fun j => ?_⟩
  · rw [relabel_set hS (by simp) (by simp)]
    exact ((h2 j).only on (n (by simp) (by simp))).only on2 (n2 (by simp))
  · rcases relabel_no hk with hk | hk
    · exact Nat.lt_of_lt_of_le (hlt k hk) on2.size
    · exact Nat.lt_of_lt_of_le (h3 k hk) (Nat.le_trans on.size on2.size)
  · rw [heap_setCell_same v' P _ _ _ _ h4']
    cases i <;> rfl
  · rw [relabel_set hS (by simp) (by simp)]
    exact ((h5 j).only0 on (n (by simp) (by simp)) (fun _ h => h)).only0 on2 (n2 (by simp)) (fun _ h => h)
  · rw [relabel_set hS (by simp) (by simp)]
    exact ((h6 j).only0 on (n (by simp) (by simp)) (fun _ h => h)).only0 on2 (n2 (by simp)) (fun _ h => h)
  · by_cases e : j = i
    · subst e
      rw [relabel_setS (by simp)]
      show StrP _ S (bset q.C j A' j) (bset q.e j c' j) (bset p.said j l' j)
      rw [bset_same, bset_same, bset_same]
      exact hR.only0 on2 nS (fun _ h => h)
    · rw [relabel_set hS (by simp) (by simpa using e)]
      show StrP _ _ (bset q.C i A' j) (bset q.e i c' j) (bset p.said i l' j)
      rw [bset_other e, bset_other e, bset_other e]
      exact ((h7 j).only0 on (n (by simp) (by simpa using e)) (fun _ h => h)).only0 on2 (n2 (by simp)) (fun _ h => h)
/-- how many told of an end -/
theorem PrP.setDowns (h : PrP v t P b p) (n : Nat) : v.frozen? ⟨P, 8, none⟩ = false ∧ PrP (v.setCell ⟨P, 8, none⟩ (.int .i64 (n : Int))) t P b (p.setDowns n) := by
  obtain ⟨h1, h2, h3, q, h4, h5, h6, h7⟩ := h
  have on2 := only_set v ⟨P, 8, none⟩ (.int .i64 (n : Int))
  have n2 : ∀ {L : Lb}, L ≠ .me → ∀ k, t k = L → ¬ k = (⟨P, 8, none⟩ : Addr).block := fun hL k hk e => hL (hk.symm.trans ((congrArg t e).trans h1))
  refine ⟨frozen_of_row v P _ _ _ h4, h1, fun j => (h2 j).only on2 (n2 (by simp)), fun k hk => Nat.lt_of_lt_of_le (h3 k hk) on2.size, q, ?_, fun j => (h5 j).only0 on2 (n2 (by simp)) (fun _ h => h), fun j => (h6 j).only0 on2 (n2 (by simp)) (fun _ h => h), fun j => (h7 j).only0 on2 (n2 (by simp)) (fun _ h => h)⟩
  rw [heap_setCell_same v P _ _ _ _ h4]
  rfl
end
end Go.Proofs.Ytgkdabllaankcaa

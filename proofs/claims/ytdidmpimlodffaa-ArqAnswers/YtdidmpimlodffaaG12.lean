/- Package arq walked, part 12 of 12 (merged texts: AqGive). No condition. -/
import Derived.Test.YtdidmpimlodffaaG11
/- Send, Output, Inds, Recv of an end of a session. Condition: room for the outputs and indications. -/
namespace Go.Proofs.Ytdidmpimlodffaa
open Go.RowKit
set_option linter.unusedVariables false

theorem Pc.kin {w : World} {F H : Nat → Prop} {v : Value} {x : List UInt8} (hH : ∀ k, F k → (∃ cur, w.heap[k]? = some (.cells cur 5 (0, 0))) → H k) (h : Pc w F v x) : Pc w H v x := by
  obtain ⟨B, d, h1, h2, h3⟩ := h
  exact ⟨B, d, h1, h2, fun k hk => hH k (h3 k hk) (h2.type k hk)⟩
theorem Pcs.kin {w : World} {F H : Nat → Prop} (hH : ∀ k, F k → (∃ cur, w.heap[k]? = some (.cells cur 5 (0, 0))) → H k) : ∀ {vs : List Value} {l : List (List UInt8)}, Pcs w F vs l → Pcs w H vs l
  | [], [], _ => trivial
  | _ :: _, _ :: _, h => ⟨h.1.kin hH, Pcs.kin hH h.2⟩
  | [], _ :: _, h => h.elim
  | _ :: _, [], h => h.elim
section
variable {w : World} {F : Nat → Prop} {b : Nat} {s : Aq}
theorem give_full (l : Lg) (x : List UInt8) : l.addE = (if l.full then 6 else 0) ∧ (l.full = true → l.add x = l) := ⟨rfl, fun h => by unfold Lg.add; rw [if_pos h]⟩
set_option maxRecDepth 20000 in
set_option maxHeartbeats 1000000 in
theorem aqGive_calls (h : AqP w F b s) (hf : s.os.length + (s.lg.W - s.lg.n) ≤ 1000000) (hsn : s.sn ≤ 1000000000000) (X : Option Addr) (e : Nat) (x : List UInt8) (hr : Rd w X x) (hx : x.length ≤ 1048576) :
    Calls Try.prog 19 #[.pointer (some ⟨b, 0, none⟩), .slice X x.length e] w fun r w' => r = .returned (.int .i64 (s.giveE x)) ∧ AqTurn F b (s.give x) w w' := by
  have c3 := h.c3
  have c4 := h.c4
  have TR := Lib.hid (AqTurn.refl h)
  by_cases h1 : s.sz < x.length
  · have es : s.give x = s := by unfold Aq.give; rw [if_pos h1]
    have ee : s.giveE x = 5 := by unfold Aq.giveE; rw [if_pos h1]
    rw [es, ee]
    have g : (s.sz : Int) < (x.length : Int) := by omega
    clear h hf es ee h1 hr
    generalize s.sz = n at *
    go_enter Try.func19, Try.ntmps19
    go_wp2
    go_ret
    exact ⟨rfl, TR.out⟩
  by_cases h2 : s.st = 2
  · have g : ¬ (s.sz : Int) < (x.length : Int) := by omega
    obtain ⟨FL, R, L, hFL, conv⟩ := h.log
    have AD := alAdd_calls L X e x hr hx
    have ok1 := h.2.add (x := x) (by have := h.2.szb; omega)
    cases hfu : s.lg.full
    · have es : s.give x = ((s.setLg (s.lg.add x)).setSn (s.sn + 1)).pump := by unfold Aq.give; rw [if_neg h1, if_neg (by simp [h2]), if_neg (by simp [hfu])]
      have ee : s.giveE x = 0 := by unfold Aq.giveE; rw [if_neg h1, if_neg (by simp [h2])]; unfold Lg.addE; rw [hfu]; rfl
      rw [es, ee]
      rw [show s.lg.addE = 0 by unfold Lg.addE; rw [hfu]; rfl] at AD
      have hWn : (s.lg.add x).W = s.lg.W ∧ (s.lg.add x).n = s.lg.n := by unfold Lg.add; split <;> exact ⟨rfl, rfl⟩
      have HM := Lib.hid (show ∀ w1, AlTurn FL b R (s.lg.add x) w w1 → AqTurn F b (s.setLg (s.lg.add x)) w w1 from fun w1 T => conv w1 _ T ok1)
      have HP := Lib.hid (show ((s.setLg (s.lg.add x)).setSn (s.sn + 1)).os.length + (((s.setLg (s.lg.add x)).setSn (s.sn + 1)).lg.W - ((s.setLg (s.lg.add x)).setSn (s.sn + 1)).lg.n) ≤ 1000000 from by
        show s.os.length + ((s.lg.add x).W - (s.lg.add x).n) ≤ 1000000
        rw [hWn.1, hWn.2]
        exact hf)
      rw [h2] at c4
      have HS : (s.setLg (s.lg.add x)).sn = s.sn := rfl
      clear es ee h1 h2 hf conv L hFL hr TR hfu hWn h ok1
      generalize s.sz = n at *
      go_enter Try.func19, Try.ntmps19
      go_wp2_with fail
      refine AD.mono ?_
      rintro e1 w1 ⟨rfl, T⟩
      have T1 := HM.out w1 T
      have c22 : w1.cell? ⟨b, 22, none⟩ = some (.int .i64 (s.sn : Int)) := T1.1.c22
      have z22 := T1.1.z 22
      obtain ⟨W2, hW2⟩ : ∃ W2, w1.setCell ⟨b, 22, none⟩ (.int .i64 ((s.sn : Int) + 1)) = W2 := ⟨_, rfl⟩
      have T2 : AqTurn F b ((s.setLg (s.lg.add x)).setSn (s.sn + 1)) w W2 := by rw [← hW2]; exact T1.thenSn (s.sn + 1)
      have PC := aqPump_calls T2.1 HP.out
      have HT2 := Lib.hid T2
      clear T T1 T2 AD HM HS
      go_wp2_with fail
      refine PC.mono ?_
      rintro e2 w3 ⟨rfl, T3⟩
      have FI := Lib.hid (HT2.out.trans T3)
      clear T3 PC
      go_wp2
      go_ret
      exact ⟨rfl, FI.out⟩
    · have es : s.give x = s := by unfold Aq.give; rw [if_neg h1, if_neg (by simp [h2]), if_pos hfu]
      have ee : s.giveE x = 6 := by unfold Aq.giveE; rw [if_neg h1, if_neg (by simp [h2])]; unfold Lg.addE; rw [hfu]; rfl
      rw [es, ee]
      rw [show s.lg.addE = 6 by unfold Lg.addE; rw [hfu]; rfl] at AD
      have HM := Lib.hid (show ∀ w1, AlTurn FL b R (s.lg.add x) w w1 → AqTurn F b s w w1 from fun w1 T => by
        have := conv w1 _ T ok1
        rw [show s.lg.add x = s.lg by unfold Lg.add; rw [if_pos hfu]] at this
        exact this)
      rw [h2] at c4
      clear es ee h1 h2 hf conv L hFL hr TR hfu h ok1
      generalize s.sz = n at *
      go_enter Try.func19, Try.ntmps19
      go_wp2_with fail
      refine AD.mono ?_
      rintro e1 w1 ⟨rfl, T⟩
      have FI := Lib.hid (HM.out w1 T)
      clear T AD HM
      go_wp2
      go_ret
      exact ⟨rfl, FI.out⟩
  · have es : s.give x = s := by unfold Aq.give; rw [if_neg h1, if_pos h2]
    have ee : s.giveE x = 7 := by unfold Aq.giveE; rw [if_neg h1, if_pos h2]
    rw [es, ee]
    have g : ¬ (s.sz : Int) < (x.length : Int) := by omega
    have g2 : ((s.st : Int) != 2) = true := by simp; omega
    clear h hf es ee h1 h2 hr
    generalize s.sz = n at *
    generalize s.st = t at *
    go_enter Try.func19, Try.ntmps19
    go_wp2
    go_ret
    exact ⟨rfl, TR.out⟩
/-- what Output returns: the row, whose blocks the end lets go -/
def AqGave (F : Nat → Prop) (b : Nat) (s : Aq) (w : World) (e : Ending) (w' : World) : Prop :=
  ∃ A c G F', e = .returned (.slice A s.os.length c) ∧ RowP w' G A c s.os ∧ AqP w' F' b s.output ∧ (∀ k, G k → F k) ∧ (∀ k, F' k → F k) ∧ (∀ k, F' k → ¬ G k) ∧ Only F w w'
theorem aqOutput_mem (h : AqP w F b s) : ∃ A c, w.cell? ⟨b, 20, none⟩ = some (.slice A s.os.length c) ∧ AqGave F b s w (.returned (.slice A s.os.length c)) (w.setCell ⟨b, 20, none⟩ (.slice none 0 0)) := by
  obtain ⟨⟨FL, FO, FU, sx, hq⟩, ok⟩ := h
  have ha := hq.isAq
  obtain ⟨p, h1, h2, ⟨h3, h4⟩, ⟨vs, h5, h5', h5''⟩, ⟨h6, h6'⟩⟩ := hq
  have on := only_set w ⟨b, 20, none⟩ (.slice none 0 0)
  have hn : ∀ k, k ≠ b → ¬ k = (⟨b, 20, none⟩ : Addr).block := fun k hk e => hk e
  let G : Nat → Prop := fun k => FU k ∧ ((∃ cur, w.heap[k]? = some (.cells cur 5 (0, 0))) ∨ ∃ cur, w.heap[k]? = some (.cells cur 39 (0, 0)))
  have gb : ¬ G b := fun e => by
    rcases e.2 with ⟨cur, t⟩ | ⟨cur, t⟩
    · exact types_apart (by decide) t h1
    · exact types_apart (by decide) t h1
  have gi : ∀ k, blk p.Ai = some k → ¬ G k := fun k hk e => by
    obtain ⟨cur', t'⟩ := h6.type k hk
    rcases e.2 with ⟨cur, t⟩ | ⟨cur, t⟩
    · exact types_apart (by decide) t t'
    · exact types_apart (by decide) t t'
  refine ⟨p.Ao, p.co, by rw [cell_of_row w b _ _ _ (0, 0) h1]; rfl, p.Ao, p.co, G, fun k => F k ∧ ¬ G k, rfl, ?_, ⟨⟨FL, FO, fun k => FU k ∧ ¬ G k, ⟨sx.lb, sx.ob, ⟨sx.ub, gb⟩, sx.lo, fun k hk hk' => sx.lu k hk hk'.1, fun k hk hk' => sx.ou k hk hk'.1, fun k => ⟨fun hk => ?_, fun hk => ?_⟩, fun k hk => Nat.lt_of_lt_of_le (sx.lt k hk.1) on.size⟩, ⟨p.A, p.c, p.B, p.Ar, p.cr, none, 0, p.Ai, p.ci⟩, ?_, h2.only ha on (fun k _ hk => hn k hk) (fun _ h => h), ⟨h3.only ha on (fun k _ hk => hn k hk) (fun _ h => h), h4.only ha on (fun k _ hk => hn k hk) (fun _ h => h)⟩, ⟨[], MidV.nil _ _, trivial, fun k hk => by simp [blk] at hk⟩, ?_⟩, ok.output⟩, fun k hk => (sx.all k).2 (.inr (.inr hk.1)), fun k hk => hk.1, fun k hk => hk.2, on.mono (fun k _ e => by rw [e]; exact (sx.all b).2 (.inl sx.lb))⟩
  · have R0 : RowP w G p.Ao p.co s.os := ⟨vs, h5, Pcs.kin (fun k hk ht => ⟨hk, .inl ht⟩) h5', fun k hk => ⟨h5'' k hk, .inr (h5.type k hk)⟩⟩
    exact R0.only ha on (fun k _ hk => hn k hk) (fun _ h => h)
  · rcases (sx.all k).1 hk.1 with h | h | h
    · exact .inl h
    · exact .inr (.inl h)
    · exact .inr (.inr ⟨h, hk.2⟩)
  · rcases hk with h | h | h
    · refine ⟨(sx.all k).2 (.inl h), fun e => ?_⟩
      have := sx.lu k h e.1
      subst this
      exact gb e
    · refine ⟨(sx.all k).2 (.inr (.inl h)), fun e => ?_⟩
      have := sx.ou k h e.1
      subst this
      exact gb e
    · exact ⟨(sx.all k).2 (.inr (.inr h.1)), h.2⟩
  · rw [heap_setCell_same w b 20 _ _ _ h1]
    rfl
  · have N0 : NumP w (fun k => FU k ∧ ¬ G k) p.Ai p.ci s.is := ⟨h6, fun k hk => ⟨h6' k hk, gi k hk⟩⟩
    exact N0.only ha on (fun k _ hk => hn k hk) (fun _ h => h)
theorem aqOutput_calls (h : AqP w F b s) : Calls Try.prog 27 #[.pointer (some ⟨b, 0, none⟩)] w (AqGave F b s w) := by
  obtain ⟨A, c, c20, G⟩ := aqOutput_mem h
  have z := h.z 20
  have FI := Lib.hid G
  clear G h
  generalize s.os.length = n at *
  go_enter Try.func27, Try.ntmps27
  go_wp2
  go_ret
  exact FI.out
/-- what Inds returns -/
def AqTold (F : Nat → Prop) (b : Nat) (s : Aq) (w : World) (e : Ending) (w' : World) : Prop :=
  ∃ A c G F', e = .returned (.slice A s.is.length c) ∧ NumP w' G A c s.is ∧ AqP w' F' b s.inds ∧ (∀ k, G k → F k) ∧ (∀ k, F' k → F k) ∧ (∀ k, F' k → ¬ G k) ∧ Only F w w'
theorem aqInds_mem (h : AqP w F b s) : ∃ A c, w.cell? ⟨b, 21, none⟩ = some (.slice A s.is.length c) ∧ AqTold F b s w (.returned (.slice A s.is.length c)) (w.setCell ⟨b, 21, none⟩ (.slice none 0 0)) := by
  obtain ⟨⟨FL, FO, FU, sx, hq⟩, ok⟩ := h
  have ha := hq.isAq
  obtain ⟨p, h1, h2, ⟨h3, h4⟩, ⟨vs, h5, h5', h5''⟩, ⟨h6, h6'⟩⟩ := hq
  have on := only_set w ⟨b, 21, none⟩ (.slice none 0 0)
  have hn : ∀ k, k ≠ b → ¬ k = (⟨b, 21, none⟩ : Addr).block := fun k hk e => hk e
  let G : Nat → Prop := fun k => FU k ∧ ∃ cur, w.heap[k]? = some (.cells cur 3 (0, 0))
  have gb : ¬ G b := fun e => by
    obtain ⟨cur, t⟩ := e.2
    exact types_apart (by decide) t h1
  refine ⟨p.Ai, p.ci, by rw [cell_of_row w b _ _ _ (0, 0) h1]; rfl, p.Ai, p.ci, G, fun k => F k ∧ ¬ G k, rfl, ?_, ⟨⟨FL, FO, fun k => FU k ∧ ¬ G k, ⟨sx.lb, sx.ob, ⟨sx.ub, gb⟩, sx.lo, fun k hk hk' => sx.lu k hk hk'.1, fun k hk hk' => sx.ou k hk hk'.1, fun k => ⟨fun hk => ?_, fun hk => ?_⟩, fun k hk => Nat.lt_of_lt_of_le (sx.lt k hk.1) on.size⟩, ⟨p.A, p.c, p.B, p.Ar, p.cr, p.Ao, p.co, none, 0⟩, ?_, h2.only ha on (fun k _ hk => hn k hk) (fun _ h => h), ⟨h3.only ha on (fun k _ hk => hn k hk) (fun _ h => h), h4.only ha on (fun k _ hk => hn k hk) (fun _ h => h)⟩, ?_, ⟨MidV.nil _ _, fun k hk => by simp [blk] at hk⟩⟩, ok.inds⟩, fun k hk => (sx.all k).2 (.inr (.inr hk.1)), fun k hk => hk.1, fun k hk => hk.2, on.mono (fun k _ e => by rw [e]; exact (sx.all b).2 (.inl sx.lb))⟩
  · have N0 : NumP w G p.Ai p.ci s.is := ⟨h6, fun k hk => ⟨h6' k hk, h6.type k hk⟩⟩
    exact N0.only ha on (fun k _ hk => hn k hk) (fun _ h => h)
  · rcases (sx.all k).1 hk.1 with h | h | h
    · exact .inl h
    · exact .inr (.inl h)
    · exact .inr (.inr ⟨h, hk.2⟩)
  · rcases hk with h | h | h
    · refine ⟨(sx.all k).2 (.inl h), fun e => ?_⟩
      have := sx.lu k h e.1
      subst this
      exact gb e
    · refine ⟨(sx.all k).2 (.inr (.inl h)), fun e => ?_⟩
      have := sx.ou k h e.1
      subst this
      exact gb e
    · exact ⟨(sx.all k).2 (.inr (.inr h.1)), h.2⟩
  · rw [heap_setCell_same w b 21 _ _ _ h1]
    rfl
  · have R0 : RowP w (fun k => FU k ∧ ¬ G k) p.Ao p.co s.os := ⟨vs, h5, Pcs.kin (fun k hk ht => ⟨hk, fun e => by
      obtain ⟨cur, t⟩ := ht
      obtain ⟨cur', t'⟩ := e.2
      exact types_apart (by decide) t t'⟩) h5', fun k hk => ⟨h5'' k hk, fun e => by
      obtain ⟨cur, t⟩ := h5.type k hk
      obtain ⟨cur', t'⟩ := e.2
      exact types_apart (by decide) t t'⟩⟩
    exact R0.only ha on (fun k _ hk => hn k hk) (fun _ h => h)
theorem aqInds_calls (h : AqP w F b s) : Calls Try.prog 31 #[.pointer (some ⟨b, 0, none⟩)] w (AqTold F b s w) := by
  obtain ⟨A, c, c21, G⟩ := aqInds_mem h
  have z := h.z 21
  have FI := Lib.hid G
  clear G h
  generalize s.is.length = n at *
  go_enter Try.func31, Try.ntmps31
  go_wp2
  go_ret
  exact FI.out
/-- what Recv returns, and what it leaves -/
def AqTook (F : Nat → Prop) (b : Nat) (s : Aq) (w : World) (e : Ending) (w' : World) : Prop :=
  ∃ A c, e = .returned (.tuple #[.slice A s.od.takeX.length c, .bool s.od.takeB]) ∧ Rd w' A s.od.takeX ∧ AqTurn F b s.recv w w' ∧ ∀ X z, Rd w X z → Rd w' X z
theorem aqRecv_calls (h : AqP w F b s) : Calls Try.prog 38 #[.pointer (some ⟨b, 0, none⟩)] w (AqTook F b s w) := by
  obtain ⟨FO, R, O, hFO, conv⟩ := h.ord
  have TC := aoTake_calls O
  have FI := Lib.hid (show ∀ A c w', Rd w' A s.od.takeX → AoP w' FO b R s.od.take → Only FO w w' → (∀ X z, Rd w X z → Rd w' X z) → AqTook F b s w (.returned (.tuple #[.slice A s.od.takeX.length c, .bool s.od.takeB])) w' from fun A c w' rd O' on kp => ⟨A, c, rfl, rd, conv w' _ (AoTurn.of_same O' on O.lt) h.2.recv, kp⟩)
  clear conv hFO h O
  unfold AoTook at TC
  generalize s.od.takeX = X at *
  generalize s.od.takeB = B at *
  generalize s.od.take = T at *
  go_enter Try.func38, Try.ntmps38
  go_wp2_with fail
  refine TC.mono ?_
  rintro e w1 ⟨A, c, rfl, rd, O', on, kp⟩
  have FJ := Lib.hid (FI.out A c w1 rd O' on kp)
  clear rd O' on kp TC FI
  generalize X.length = n at *
  go_wp2
  go_ret2
  exact FJ.out
end
end Go.Proofs.Ytdidmpimlodffaa

/- What the steps of Put of an order of the reference leave: a message is kept, one becomes ready, one is kept no more, the next number turns. No condition. -/
import Derived.Test.YtdidmpimlodffaaRoMem
import Derived.Test.YtdidmpimlodffaaPipThree
namespace Go.Proofs.Ytdidmpimlodffaa
open Go.RowKit
set_option linter.unusedVariables false

section
variable {w w' : World} {F G : Nat → Prop}
theorem Ms.take : ∀ {cs : List Value} {l : List (Int × List UInt8)}, Ms w F cs l → ∀ k, Ms w F (cs.take (k * 2)) (l.take k)
  | [], [], _, k => by simp [Ms]
  | _ :: _ :: _, (_, _) :: _, h, 0 => by simp [Ms]
  | _ :: _ :: _, (_, _) :: _, h, k + 1 => by
    rw [show (k + 1) * 2 = k * 2 + 1 + 1 by omega]
    exact ⟨h.1, h.2.1, Ms.take h.2.2 k⟩
  | [], _ :: _, h, _ => h.elim
  | [_], _, h, _ => by unfold Ms at h; exact h.elim
  | _ :: _ :: _, [], h, _ => h.elim
theorem Ms.cat : ∀ {cs us : List Value} {l m : List (Int × List UInt8)}, Ms w F cs l → Ms w F us m → Ms w F (cs ++ us) (l ++ m)
  | [], _, [], _, _, h' => h'
  | _ :: _ :: _, _, (_, _) :: _, _, h, h' => ⟨h.1, h.2.1, Ms.cat h.2.2 h'⟩
  | [], _, _ :: _, _, h, _ => h.elim
  | [_], _, _, _, h, _ => by unfold Ms at h; exact h.elim
  | _ :: _ :: _, _, [], _, h, _ => h.elim
end
section
variable {w : World} {F : Nat → Prop} {b m W e : Nat} {o : List (Int × List UInt8)} {t : List (List UInt8)} {s : Od} {x : List UInt8}
/-- a message comes to those that are kept -/
theorem ro_add (h : RoRaw w F b m W e o t) (ho : o.length ≤ 100000) (z : Int) (X : Option Addr) (e9 : Nat) (hr : Rd w X x) (hx : x.length ≤ 1048576) :
    ∃ A c, w.cell? ⟨b, 3, none⟩ = some (.slice A o.length c) ∧
      ∃ A1 c1 V1, (∀ ty, (Builtin.append_ #[39, 39] ty #[.slice none 0 0, .slice X x.length e9]).run Try.prog w = .ok (.slice A1 x.length c1) V1) ∧ V1.cell? ⟨b, 3, none⟩ = some (.slice A o.length c) ∧
        (V1.alloc (.cells #[.int .i64 z, .slice A1 x.length c1] 98)).cell? ⟨b, 3, none⟩ = some (.slice A o.length c) ∧
          ∃ A3 c3 V3, (∀ ty, (Builtin.append_ #[93, 93] ty #[.slice A o.length c, .slice (some ⟨V1.heap.size, 0, none⟩) 1 1]).run Try.prog (V1.alloc (.cells #[.int .i64 z, .slice A1 x.length c1] 98)) = .ok (.slice A3 (o.length + 1) c3) V3) ∧
            V3.cell? ⟨b, 3, none⟩ = some (.slice A o.length c) ∧ V3.frozen? ⟨b, 3, none⟩ = false ∧ RoRaw (V3.setCell ⟨b, 3, none⟩ (.slice A3 (o.length + 1) c3)) (more F w (V3.setCell ⟨b, 3, none⟩ (.slice A3 (o.length + 1) c3))) b m W e (o ++ [(z, x)]) t ∧ Only F w (V3.setCell ⟨b, 3, none⟩ (.slice A3 (o.length + 1) c3)) := by
  obtain ⟨A, c, cs, B, d, vs, h1, ⟨h2, h3⟩, ⟨h4, h5⟩, h6, h7, h8, h9⟩ := h
  obtain ⟨A1, c1, V1, r1, m1, b1, k1⟩ := app_nil (d := e9) hr rfl (by omega)
  have o1 : Only (fun _ => False) w V1 := Only.of_below _ b1
  have hb1 := (b1.block b (lt_of_block h1)).trans h1
  have hv1 := h2.only o1 (fun _ _ h => h)
  obtain ⟨A3, c3, V3, r3, m3, on3, kin3⟩ := hv1.app1 etMsg (by decide) [.int .i64 z, .slice A1 x.length c1] rfl (fun u hu => by
    rcases List.mem_cons.1 hu with rfl | hu
    · rfl
    · rw [List.mem_singleton.1 hu]; rfl) (by omega)
  have hba : ((V1.alloc (.cells #[.int .i64 z, .slice A1 x.length c1] 98)).heap[b]? : Option Obj) = V1.heap[b]? := Below.heap_alloc _ _ _ (by have := lt_of_block hb1; omega)
  have hb3 := (on3.block b (lt_of_block hb1) (fun e => by
    obtain ⟨cur, t1⟩ := hv1.type b e
    exact types_apart (by decide) t1 hb1)).trans hb1
  have hs1 := b1.size
  have hs3 := on3.size
  have hlt3 : ∀ k, more F w V3 k → k < V3.heap.size := more_lt h9 (Nat.le_trans hs1 hs3)
  have g4 := (h4.only o1 (fun _ _ h => h)).only on3 (ro_rows_msgs hv1 (h4.only o1 (fun _ _ h => h)))
  have p3 : Pcs V3 (more F w V3) vs t := Pcs.only on3 (ro_off_msgs hv1) (fun _ h => .inl h) (Pcs.only o1 (fun _ _ _ h => h) (fun _ h => h) h5)
  have n3 : Ms V3 (more F w V3) cs o := Ms.only on3 (ro_off_msgs hv1) (fun _ h => .inl h) (Ms.only o1 (fun _ _ _ h => h) (fun _ h => h) h3)
  have q3 : Pc V3 (more F w V3) (.slice A1 x.length c1) x := ⟨A1, c1, rfl, m1.only on3 (fun k hk e => by
    obtain ⟨cur, t1⟩ := m1.type k hk
    obtain ⟨cur', t2⟩ := hv1.type k e
    exact types_apart (by decide) t1 t2), fun k hk => .inr ⟨k1 k hk, Nat.lt_of_lt_of_le (m1.blk_lt k hk) hs3⟩⟩
  obtain ⟨f3, raw4, on4⟩ := ro_set (F := more F w V3) (m := m) (W := W) (e := e) (o := o ++ [(z, x)]) (A := A3) (c := c3) (cs := cs ++ [.int .i64 z, .slice A1 x.length c1]) (t := t) (B := B) (d := d) (vs := vs) hb3 3 (.slice A3 (o.length + 1) c3) (by simp [roc]) (by simpa using m3) (n3.app q3) g4 p3 (.inl h6) (fun k hk => (kin3 k hk).elim (fun h => .inl (h7 k h)) (fun h => .inr ⟨Nat.le_trans hs1 h, m3.blk_lt k hk⟩)) (fun k hk => .inl (h8 k hk)) hlt3
  refine ⟨A, c, (rocell h1).2.2.2.1, A1, c1, V1, r1, (rocell hb1).2.2.2.1, (rocell (hba.trans hb1)).2.2.2.1, A3, c3, V3, r3, (rocell hb3).2.2.2.1, f3, ?_, ?_⟩
  · have hs4 : (V3.setCell ⟨b, 3, none⟩ (.slice A3 (o.length + 1) c3)).heap.size = V3.heap.size := by simp [World.setCell]
    have em : more F w (V3.setCell ⟨b, 3, none⟩ (.slice A3 (o.length + 1) c3)) = more F w V3 := by unfold more; rw [hs4]
    rw [em]
    exact raw4
  · have t1 : Only F w V1 := o1.mono (fun _ _ h => h.elim)
    have t3 : Only F w V3 := t1.trans on3 (fun k _ hk => h7 k hk)
    exact t3.trans (only_set V3 ⟨b, 3, none⟩ _) (fun k _ e => by rw [e]; exact h6)
/-- a message becomes ready -/
theorem ro_push (h : RoRaw w F b m W e o t) (ht : t.length ≤ 1000000) {C : Option Addr} {d9 : Nat} (hy : Pc w F (.slice C x.length d9) x) : ∃ A c, w.cell? ⟨b, 4, none⟩ = some (.slice A t.length c) ∧ (w.alloc (.cells #[.slice C x.length d9] 39)).cell? ⟨b, 4, none⟩ = some (.slice A t.length c) ∧
    ∃ A4 c4 V4, (∀ ty, (Builtin.append_ #[31, 31] ty #[.slice A t.length c, .slice (some ⟨w.heap.size, 0, none⟩) 1 1]).run Try.prog (w.alloc (.cells #[.slice C x.length d9] 39)) = .ok (.slice A4 (t.length + 1) c4) V4) ∧
      V4.cell? ⟨b, 4, none⟩ = some (.slice A t.length c) ∧ V4.frozen? ⟨b, 4, none⟩ = false ∧ RoRaw (V4.setCell ⟨b, 4, none⟩ (.slice A4 (t.length + 1) c4)) (more F w (V4.setCell ⟨b, 4, none⟩ (.slice A4 (t.length + 1) c4))) b m W e o (t ++ [x]) ∧ Only F w (V4.setCell ⟨b, 4, none⟩ (.slice A4 (t.length + 1) c4)) := by
  obtain ⟨A, c, cs, B, d, vs, h1, ⟨h2, h3⟩, ⟨h4, h5⟩, h6, h7, h8, h9⟩ := h
  have hvl := h5.len
  obtain ⟨A4, c4, V4, r4, m4, o4, k4⟩ := h4.app1 etRow (.slice C x.length d9) rfl (by omega)
  rw [hvl] at r4
  have hb4 := (o4.block b (lt_of_block h1) (fun e => by
    obtain ⟨cur, t1⟩ := h4.type b e
    exact types_apart (by decide) t1 h1)).trans h1
  have hba : ((w.alloc (.cells #[.slice C x.length d9] 39)).heap[b]? : Option Obj) = w.heap[b]? := Below.heap_alloc _ _ _ (by have := lt_of_block h1; omega)
  have hs4 := o4.size
  have lt4 : ∀ k, more F w V4 k → k < V4.heap.size := more_lt h9 hs4
  have g2 := h2.only o4 (fun k hk e => by
    obtain ⟨cur, t1⟩ := h2.type k hk
    obtain ⟨cur', t2⟩ := h4.type k e
    exact types_apart (by decide) t1 t2)
  obtain ⟨z4, raw, on4⟩ := ro_set (F := more F w V4) (m := m) (W := W) (e := e) (o := o) (A := A) (c := c) (cs := cs) (t := t ++ [x]) (B := A4) (d := c4) (vs := vs ++ [.slice C x.length d9]) hb4 4 (.slice A4 (t.length + 1) c4) (by simp [roc]) g2 (Ms.only o4 (ro_off_rows h4) (fun _ h => .inl h) h3) m4 ((Pcs.only o4 (ro_off_rows h4) (fun _ h => .inl h) h5).app (hy.only o4 (ro_off_rows h4) (fun _ h => .inl h))) (.inl h6) (fun q hq => .inl (h7 q hq)) (fun q hq => (k4 q hq).elim (fun h => .inl (h8 q h)) (fun h => .inr ⟨h, m4.blk_lt q hq⟩)) lt4
  refine ⟨B, d, (rocell h1).2.2.2.2, (rocell (hba.trans h1)).2.2.2.2, A4, c4, V4, r4, (rocell hb4).2.2.2.2, z4, ?_, (o4.mono (fun q _ hq => h8 q hq)).trans (only_set V4 ⟨b, 4, none⟩ _) (fun q _ e => by rw [e]; exact h6)⟩
  have hs5 : (V4.setCell ⟨b, 4, none⟩ (.slice A4 (t.length + 1) c4)).heap.size = V4.heap.size := by simp [World.setCell]
  have em : more F w (V4.setCell ⟨b, 4, none⟩ (.slice A4 (t.length + 1) c4)) = more F w V4 := by unfold more; rw [hs5]
  rw [em]
  exact raw
/-- the message i is kept no more: two appends -/
theorem ro_cut2 (h : RoRaw w F b m W e o t) (ho : o.length ≤ 100000) {g off c : Nat} (hA : w.cell? ⟨b, 3, none⟩ = some (.slice (some ⟨g, off, none⟩) o.length c)) {i : Nat} (hi : i < o.length) (C : Option Addr) (cc : Nat)
    (hC : (c = i + 1 ∧ C = some ⟨g, off, none⟩) ∨ C = some ⟨g, off + (i + 1) * 2, none⟩) :
    ∃ A1 c1 V1, (∀ ty, (Builtin.append_ #[93, 93] ty #[.slice none 0 0, .slice (some ⟨g, off, none⟩) i c]).run Try.prog w = .ok (.slice A1 i c1) V1) ∧ V1.cell? ⟨b, 3, none⟩ = some (.slice (some ⟨g, off, none⟩) o.length c) ∧
      ∃ A2 c2 V2, (∀ ty, (Builtin.append_ #[93, 93] ty #[.slice A1 i c1, .slice C (o.length - (i + 1)) cc]).run Try.prog V1 = .ok (.slice A2 (o.length - 1) c2) V2) ∧ V2.cell? ⟨b, 3, none⟩ = some (.slice (some ⟨g, off, none⟩) o.length c) ∧ V2.frozen? ⟨b, 3, none⟩ = false ∧
        RoRaw (V2.setCell ⟨b, 3, none⟩ (.slice A2 (o.length - 1) c2)) (more F w (V2.setCell ⟨b, 3, none⟩ (.slice A2 (o.length - 1) c2))) b m W e (o.take i ++ o.drop (i + 1)) t ∧ Only F w (V2.setCell ⟨b, 3, none⟩ (.slice A2 (o.length - 1) c2)) := by
  obtain ⟨A', c', cs, B, d, vs, h1, ⟨h2, h3⟩, ⟨h4, h5⟩, h6, h7, h8, h9⟩ := h
  have e1 := (rocell h1).2.2.2.1
  rw [hA] at e1
  injection e1 with e1
  injection e1 with e1 _ e2
  subst e1 e2
  have hone := h3.one
  have hcl := h2.1
  have key1 : ∃ A1 c1 V1, (∀ ty, (Builtin.append_ #[93, 93] ty #[.slice none 0 0, .slice (some ⟨g, off, none⟩) i c]).run Try.prog w = .ok (.slice A1 i c1) V1) ∧ MidK 98 2 V1 A1 c1 i (cs.take (i * 2)) ∧ Below w.heap.size w V1 ∧ ∀ k, blk A1 = some k → w.heap.size ≤ k := by
    rcases Nat.eq_zero_or_pos i with rfl | h0
    · rw [Nat.zero_mul, List.take_zero]
      exact ⟨none, 0, w, fun ty => MidK.app0 etMsg (MidK.nil 98 2 w) _ c ty, MidK.nil _ _ _, Below.refl _ _, fun k hk => by simp [blk] at hk⟩
    · have src : Src Try.prog 2 93 (.slice (some ⟨g, off, none⟩) i c) i (cs.take (i * 2)) w := by
        rcases h2.2.2.2 with ⟨h0, _⟩ | ⟨g', off', cur, e', hg, hs, hc⟩
        · cases h0
        injection e' with e'
        injection e' with e3 e4
        subst e3 e4
        refine Src.ofSlice w etMsg.und ⟨g, off, none⟩ i c _ ?_ (fun j u hj => ?_) (fun u hu => hone u (List.mem_of_mem_take hu))
        · rw [List.length_take]; omega
        · rw [Addr.add_mid]
          rw [List.getElem?_take] at hj
          split at hj
          · exact hc _ u hj
          · cases hj
      obtain ⟨A1, c1, V1, r1, m1, o1, k1⟩ := (MidK.nil 98 2 w).app etMsg (by decide) _ i _ h0 src (by omega)
      rw [Nat.zero_add] at r1 m1
      rw [List.nil_append] at m1
      exact ⟨A1, c1, V1, r1, m1, o1.below (fun k hk => by simp [blk] at hk) (Nat.le_refl _), fun k hk => (k1 k hk).elim (fun h => by simp [blk] at h) id⟩
  obtain ⟨A1, c1, V1, r1, m1, b1, k1⟩ := key1
  have o1 : Only (fun _ => False) w V1 := Only.of_below _ b1
  have hb1 := (b1.block b (lt_of_block h1)).trans h1
  have g2 := h2.only o1 (fun _ _ h => h)
  have hlen : i + (o.length - (i + 1)) = o.length - 1 := by omega
  have key2 : ∃ A2 c2 V2, (∀ ty, (Builtin.append_ #[93, 93] ty #[.slice A1 i c1, .slice C (o.length - (i + 1)) cc]).run Try.prog V1 = .ok (.slice A2 (o.length - 1) c2) V2) ∧ MidK 98 2 V2 A2 c2 (o.length - 1) (cs.take (i * 2) ++ cs.drop ((i + 1) * 2)) ∧ Below w.heap.size w V2 ∧ ∀ k, blk A2 = some k → w.heap.size ≤ k := by
    rcases Nat.eq_zero_or_pos (o.length - (i + 1)) with h0 | h0
    · have hcs : cs.drop ((i + 1) * 2) = [] := List.drop_eq_nil_of_le (by rw [hcl]; omega)
      rw [hcs, List.append_nil, h0, show o.length - 1 = i by omega]
      exact ⟨A1, c1, V1, fun ty => MidK.app0 etMsg m1 C cc ty, m1, b1, k1⟩
    · have hC' : C = some ⟨g, off + (i + 1) * 2, none⟩ := by
        rcases hC with ⟨hc, _⟩ | hC
        · have := h2.2.1
          omega
        · exact hC
      subst hC'
      have src := g2.src etMsg (d := cc) (show i + 1 ≤ o.length by omega) hone
      obtain ⟨A2, c2, V2, r2, m2, o2, k2⟩ := m1.app etMsg (by decide) _ (o.length - (i + 1)) _ h0 src (by omega)
      rw [hlen] at r2 m2
      exact ⟨A2, c2, V2, r2, m2, b1.trans (o2.below (fun k hk => k1 k hk) b1.size), fun k hk => (k2 k hk).elim (k1 k) (fun h => Nat.le_trans b1.size h)⟩
  obtain ⟨A2, c2, V2, r2, m2, b2, k2⟩ := key2
  have o2 : Only (fun _ => False) w V2 := Only.of_below _ b2
  have hb2 := (b2.block b (lt_of_block h1)).trans h1
  have lt2 : ∀ k, more F w V2 k → k < V2.heap.size := more_lt h9 b2.size
  have hdl : (o.take i ++ o.drop (i + 1)).length = o.length - 1 := by rw [List.length_append, List.length_take, List.length_drop]; omega
  have M2 : Ms V2 (more F w V2) cs o := Ms.only o2 (fun _ _ _ h => h) (fun _ h => .inl h) h3
  obtain ⟨z, raw, on⟩ := ro_set (F := more F w V2) (m := m) (W := W) (e := e) (o := o.take i ++ o.drop (i + 1)) (A := A2) (c := c2) (cs := cs.take (i * 2) ++ cs.drop ((i + 1) * 2)) (t := t) (B := B) (d := d) (vs := vs) hb2 3 (.slice A2 (o.length - 1) c2) (by rw [hdl]; simp [roc]) (by rw [hdl]; exact m2) ((M2.take i).cat (M2.drop (i + 1))) (h4.only o2 (fun _ _ h => h)) (Pcs.only o2 (fun _ _ _ h => h) (fun _ h => .inl h) h5) (.inl h6) (fun k hk => .inr ⟨k2 k hk, m2.blk_lt k hk⟩) (fun k hk => .inl (h8 k hk)) lt2
  refine ⟨A1, c1, V1, r1, (rocell hb1).2.2.2.1, A2, c2, V2, r2, (rocell hb2).2.2.2.1, z, ?_, (o2.mono (fun _ _ h => h.elim)).trans (only_set V2 ⟨b, 3, none⟩ _) (fun k _ e => by rw [e]; exact h6)⟩
  have hs4 : (V2.setCell ⟨b, 3, none⟩ (.slice A2 (o.length - 1) c2)).heap.size = V2.heap.size := by simp [World.setCell]
  have em : more F w (V2.setCell ⟨b, 3, none⟩ (.slice A2 (o.length - 1) c2)) = more F w V2 := by unfold more; rw [hs4]
  rw [em]
  exact raw
/-- the next number turns -/
theorem ro_setX (h : RoRaw w F b m W e o t) (e' : Nat) : w.cell? ⟨b, 0, none⟩ = some (.int .i64 (m : Int)) ∧ w.cell? ⟨b, 2, none⟩ = some (.int .i64 (e : Int)) ∧ w.frozen? ⟨b, 2, none⟩ = false ∧ RoRaw (w.setCell ⟨b, 2, none⟩ (.int .i64 (e' : Int))) F b m W e' o t ∧ Only F w (w.setCell ⟨b, 2, none⟩ (.int .i64 (e' : Int))) := by
  obtain ⟨A, c, cs, B, d, vs, h1, ⟨h2, h3⟩, ⟨h4, h5⟩, h6, h7, h8, h9⟩ := h
  obtain ⟨z, raw, on⟩ := ro_set (F := F) (m := m) (W := W) (e := e') (o := o) (A := A) (c := c) (cs := cs) (t := t) (B := B) (d := d) (vs := vs) h1 2 (.int .i64 (e' : Int)) (by simp [roc]) h2 h3 h4 h5 h6 h7 h8 h9
  exact ⟨(rocell h1).1, (rocell h1).2.2.1, z, raw, on⟩
end
end Go.Proofs.Ytdidmpimlodffaa

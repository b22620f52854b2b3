/- The reference's SameLists at two rows of the same pieces; a row from its middle. No condition but room. -/
import Derived.Test.YtdidmpimlodffaaG12
import Derived.Deep.LoopGhost
namespace Go.Proofs.Ytdidmpimlodffaa
open Go.RowKit
set_option linter.unusedVariables false

section
variable {v : World} {F G : Nat → Prop} {A B : Option Addr} {c d : Nat} {L : List (List UInt8)}
theorem RowP.cut {g off : Nat} (h : RowP v F (some ⟨g, off, none⟩) c L) {k : Nat} (hk : k ≤ L.length) (B : Option Addr) (hB : (c = k ∧ B = some ⟨g, off, none⟩) ∨ B = some ⟨g, off + k, none⟩) : RowP v F B (c - k) (L.drop k) := by
  obtain ⟨vs, h1, h2, h3⟩ := h
  refine ⟨vs.drop k, h1.cut (by rw [h2.len]; exact hk) B hB, h2.drop k, fun j hj => h3 j ?_⟩
  rcases hB with ⟨_, rfl⟩ | rfl <;> exact hj
theorem RowP.none_or (h : RowP v F A c L) : (A = none ∧ L = [] ∧ c = 0) ∨ ∃ g off, A = some ⟨g, off, none⟩ ∧ L.length ≤ c ∧ c ≤ maxLen := by
  obtain ⟨vs, h1, h2, h3⟩ := h
  have hl := h2.len
  have h11 := h1.1
  rcases h1.2.2 with ⟨rfl, h0⟩ | ⟨g, off, cur, rfl, _⟩
  · exact .inl ⟨rfl, List.eq_nil_of_length_eq_zero (by omega), h0⟩
  · exact .inr ⟨g, off, rfl, by omega, h1.2.1⟩
set_option maxRecDepth 20000 in
set_option maxHeartbeats 1000000 in
theorem sameRows_calls (r1 : RowP v F A c L) (r2 : RowP v G B d L) (hl : L.length ≤ 1000000) :
    Calls Try.prog 40 #[.slice A L.length c, .slice B L.length d] v fun e v' => e = .returned (.bool true) ∧ ∃ m, v' = v.drewN m := by
  have HH := Lib.hid (And.intro r1 r2)
  obtain ⟨n, hn⟩ : ∃ n, n = L.length := ⟨_, rfl⟩
  have HL := Lib.hid hn
  have hle : n ≤ 1000000 := by omega
  rw [← hn]
  clear r1 r2 hl hn
  go_enter Try.func40, Try.ntmps40
  go_wp2_with fail
  go_loopg [5] n (fun kx s5 wr => ∃ (i m : Nat), s5 = .int .i64 i ∧ i ≤ n ∧ n - i ≤ kx ∧ Aside (wr = v.drewN m))
  case atStart => exact ⟨0, 0, rfl, by omega, by omega, rfl⟩
  case round =>
    obtain ⟨i, m, rfl, hin, hkx, HW⟩ := hrel
    by_cases hlt : i < n
    · have hltz : (i : Int) < (n : Int) := by omega
      have hz : (0 : Int) ≤ (i : Int) := by omega
      obtain ⟨g1, o1, B1, d1, rfl, k1, rd1, -⟩ := HH.out.1.at_ (i := i) (by rw [← HL.out]; exact hlt)
      obtain ⟨g2, o2, B2, d2, rfl, k2, rd2, -⟩ := HH.out.2.at_ (i := i) (by rw [← HL.out]; exact hlt)
      have k1 : wr.cell? ⟨g1, o1 + i, none⟩ = some (.slice B1 (L.getD i []).length d1) := by rw [HW.out]; exact k1
      have k2 : wr.cell? ⟨g2, o2 + i, none⟩ = some (.slice B2 (L.getD i []).length d2) := by rw [HW.out]; exact k2
      have q1 : ∀ q, (convert 39 9 (.slice B1 (L.getD i []).length d1)).run Try.prog (wr.drewN q) = .ok (strV (L.getD i [])) (wr.drewN q) := fun q => by rw [HW.out]; exact run_conv _ B1 d1 _ rd1
      have q2 : ∀ q, (convert 39 9 (.slice B2 (L.getD i []).length d2)).run Try.prog (wr.drewN q) = .ok (strV (L.getD i [])) (wr.drewN q) := fun q => by rw [HW.out]; exact run_conv _ B2 d2 _ rd2
      unfold strV at q1 q2
      generalize (⟨(L.getD i []).toArray⟩ : ByteArray) = z at *
      generalize (L.getD i []).length = y at *
      clear rd1 rd2
      go_wp2_with fail
      go_quiet (fail)
      have HW' : Aside (∃ m', World.drewN wr nq = v.drewN m') := ⟨m + nq, by rw [HW.out]; simp [World.drewN, Nat.add_assoc]⟩
      go_wp2
      go_roundg (n - (i + 1))
      case measure => omega
      case rel => exact ⟨i + 1, _, by go_num, by omega, Nat.le_refl _, HW'.out.choose_spec⟩
    · have hltz : ¬ (i : Int) < (n : Int) := by omega
      go_wp2
      go_ret
      exact ⟨rfl, m, HW.out⟩
end
end Go.Proofs.Ytdidmpimlodffaa

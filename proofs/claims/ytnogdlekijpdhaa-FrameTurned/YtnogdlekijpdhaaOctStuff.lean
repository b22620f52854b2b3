/- Stuff of the program and of the reference: each returns the plain mathematics' octets, in new memory. Condition: the slice reads as the octets, of which there are at most 2^20. -/
import Derived.Test.YtnogdlekijpdhaaBytesNew
import Derived.Test.YtnogdlekijpdhaaOctPlain
namespace Go.Proofs.Ytnogdlekijpdhaa
open Go.RowKit
open Oct
set_option linter.unusedVariables false

/-- behind k of the octets -/
def SRel (W : World) (l : List UInt8) (v i : Value) (wr : World) : Prop :=
  ∃ (k : Nat) (A : Option Addr) (c : Nat), k ≤ l.length ∧ i = .int .i64 k ∧ v = .slice A (stuff (l.take k)).length c ∧ Own wr W.heap.size A c (stuff (l.take k)) ∧ Below W.heap.size W wr

theorem is_flag {c : UInt8} (h : c = 126) : ((c.toNat : Int) == 126) = true := byte_eq h
theorem no_flag {c : UInt8} (h : c ≠ 126) : ((c.toNat : Int) == 126) = false := byte_ne h
theorem is_esc {c : UInt8} (h : c = 125) : ((c.toNat : Int) == 125) = true := byte_eq h
theorem no_esc {c : UInt8} (h : c ≠ 125) : ((c.toNat : Int) == 125) = false := byte_ne h
theorem turned (c : UInt8) : bits .xor .u8 (c.toNat : Int) 32 = ((c ^^^ 32).toNat : Int) := u8_xor_byte c 32

set_option maxHeartbeats 1000000 in
theorem stuff_calls (A : Option Addr) (c : Nat) (l : List UInt8) (w : World) (hr : Rd w A l) (hl : l.length ≤ 1048576) :
    Calls Try.prog 25 #[.slice A l.length c] w (Gives (stuff l) w) := by
  go_enter Try.func25, Try.ntmps25
  go_wp2
  go_loopw [3, 8] (SRel w l) (fun _ i _ => l.length - (intOf i).toNat)
  case atStart => exact ⟨0, none, 0, Nat.zero_le _, rfl, rfl, Own.nil _ _, Below.refl _ _⟩
  case round =>
    obtain ⟨k, B, d, hk, rfl, rfl, own, bel⟩ := hrel
    by_cases hlt : k < l.length
    · obtain ⟨b, off, rfl, hb, hc⟩ := (hr.below bel).at_ hlt
      have hsn := Lib.hid (stuff_snoc l k hlt)
      have hle := stuff_take l k hk
      have hg : l.getD k 0 = l[k] := by simp [hlt]
      rw [hg] at hc
      generalize l[k] = x at hc hsn
      clear hg
      unfold bv at hc
      have hx := turned x
      by_cases hf : x = 126 ∨ x = 125
      · have he : esc x = [125, x ^^^ 32] := by unfold esc; rw [if_pos hf]
        obtain ⟨A', c', w', run, own', bel'⟩ := app_new wr w.heap.size B d _ [125, x ^^^ 32] own bel.size (by simp; omega)
        rw [← he, ← hsn.out] at own'
        have hlen := congrArg List.length hsn.out
        rw [he] at hlen
        rw [← hlen] at run
        clear hlen he own
        generalize x ^^^ 32 = y at hx run
        have bel2 := bel.trans bel'
        by_cases h1 : x = 126
        · have h2 := is_flag h1
          clear h1 hf
          go_wp2_with (at_builtin; refine Lib.wpList_append_run _ rfl _ _ _ _ rfl _ _ rfl rfl _ _ (run _) ?_)
          go_roundw
          case rel => exact ⟨k + 1, A', c', by omega, by go_num, rfl, own', bel2⟩
          case measure => simp [intOf]; omega
        · have h2 := no_flag h1
          have h3 := is_esc (hf.resolve_left h1)
          clear h1 hf
          go_wp2_with (at_builtin; refine Lib.wpList_append_run _ rfl _ _ _ _ rfl _ _ rfl rfl _ _ (run _) ?_)
          go_roundw
          case rel => exact ⟨k + 1, A', c', by omega, by go_num, rfl, own', bel2⟩
          case measure => simp [intOf]; omega
      · have he : esc x = [x] := by unfold esc; rw [if_neg hf]
        obtain ⟨A', c', w', run, own', bel'⟩ := app_new wr w.heap.size B d _ [x] own bel.size (by simp; omega)
        rw [← he, ← hsn.out] at own'
        have hlen := congrArg List.length hsn.out
        rw [he] at hlen
        rw [← hlen] at run
        clear hlen he own
        have bel2 := bel.trans bel'
        have h2 := no_flag (fun e => hf (.inl e))
        have h3 := no_esc (fun e => hf (.inr e))
        clear hf hx
        go_wp2_with (at_builtin; refine Lib.wpList_append_run _ rfl _ _ _ _ rfl _ _ rfl rfl _ _ (run _) ?_)
        go_roundw
        case rel => exact ⟨k + 1, A', c', by omega, by go_num, rfl, own', bel2⟩
        case measure => simp [intOf]; omega
    · have ht : l.take k = l := List.take_of_length_le (by omega)
      rw [ht] at own
      have HT := Lib.hid ht
      clear ht
      go_wp2
      go_ret
      exact ⟨B, d, by rw [HT.out]; rfl, own.rd, bel⟩
set_option maxHeartbeats 1000000 in
theorem refStuff_calls (A : Option Addr) (c : Nat) (l : List UInt8) (w : World) (hr : Rd w A l) (hl : l.length ≤ 1048576) :
    Calls Try.prog 27 #[.slice A l.length c] w (Gives (stuff l) w) := by
  go_enter Try.func27, Try.ntmps27
  go_wp2
  go_loopw [3, 4] (SRel w l) (fun _ i _ => l.length - (intOf i).toNat)
  case atStart => exact ⟨0, none, 0, Nat.zero_le _, rfl, rfl, Own.nil _ _, Below.refl _ _⟩
  case round =>
    obtain ⟨k, B, d, hk, rfl, rfl, own, bel⟩ := hrel
    by_cases hlt : k < l.length
    · obtain ⟨b, off, rfl, hb, hc⟩ := (hr.below bel).at_ hlt
      have hsn := Lib.hid (stuff_snoc l k hlt)
      have hle := stuff_take l k hk
      have hg : l.getD k 0 = l[k] := by simp [hlt]
      rw [hg] at hc
      generalize l[k] = x at hc hsn
      clear hg
      unfold bv at hc
      have hx := turned x
      by_cases hf : x = 126 ∨ x = 125
      · have he : esc x = [125, x ^^^ 32] := by unfold esc; rw [if_pos hf]
        obtain ⟨A', c', w', run, own', bel'⟩ := app_new wr w.heap.size B d _ [125, x ^^^ 32] own bel.size (by simp; omega)
        rw [← he, ← hsn.out] at own'
        have hlen := congrArg List.length hsn.out
        rw [he] at hlen
        rw [← hlen] at run
        clear hlen he own
        generalize x ^^^ 32 = y at hx run
        have bel2 := bel.trans bel'
        by_cases h1 : x = 126
        · have h2 := is_flag h1
          clear h1 hf
          go_wp2_with (at_builtin; refine Lib.wpList_append_run _ rfl _ _ _ _ rfl _ _ rfl rfl _ _ (run _) ?_)
          go_roundw
          case rel => exact ⟨k + 1, A', c', by omega, by go_num, rfl, own', bel2⟩
          case measure => simp [intOf]; omega
        · have h2 := no_flag h1
          have h3 := is_esc (hf.resolve_left h1)
          clear h1 hf
          go_wp2_with (at_builtin; refine Lib.wpList_append_run _ rfl _ _ _ _ rfl _ _ rfl rfl _ _ (run _) ?_)
          go_roundw
          case rel => exact ⟨k + 1, A', c', by omega, by go_num, rfl, own', bel2⟩
          case measure => simp [intOf]; omega
      · have he : esc x = [x] := by unfold esc; rw [if_neg hf]
        obtain ⟨A', c', w', run, own', bel'⟩ := app_new wr w.heap.size B d _ [x] own bel.size (by simp; omega)
        rw [← he, ← hsn.out] at own'
        have hlen := congrArg List.length hsn.out
        rw [he] at hlen
        rw [← hlen] at run
        clear hlen he own
        have bel2 := bel.trans bel'
        have h2 := no_flag (fun e => hf (.inl e))
        have h3 := no_esc (fun e => hf (.inr e))
        clear hf hx
        go_wp2_with (at_builtin; refine Lib.wpList_append_run _ rfl _ _ _ _ rfl _ _ rfl rfl _ _ (run _) ?_)
        go_roundw
        case rel => exact ⟨k + 1, A', c', by omega, by go_num, rfl, own', bel2⟩
        case measure => simp [intOf]; omega
    · have ht : l.take k = l := List.take_of_length_le (by omega)
      rw [ht] at own
      have HT := Lib.hid ht
      clear ht
      go_wp2
      go_ret
      exact ⟨B, d, by rw [HT.out]; rfl, own.rd, bel⟩
end Go.Proofs.Ytnogdlekijpdhaa

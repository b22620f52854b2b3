/- Strings that grow and parts of them; what Add leaves of the octets. No condition. -/
import Derived.Test.YtpjhehfhpeclhaaRngPlain
import Derived.Test.YtpjhehfhpeclhaaBytesRd
namespace Go.Proofs.Ytpjhehfhpeclhaa
open Go.RowKit
set_option linter.unusedVariables false

theorem str_cat (a b : List UInt8) : ((⟨a.toArray⟩ : ByteArray) ++ (⟨b.toArray⟩ : ByteArray)) = ⟨(a ++ b).toArray⟩ := by
  apply ByteArray.ext
  simp
theorem str_front (a b c : List UInt8) (h : a ++ b = c) : (⟨c.toArray⟩ : ByteArray).extract 0 a.length = ⟨a.toArray⟩ := by
  subst h
  apply ByteArray.ext
  simp
theorem str_mid (a m b : List UInt8) : (⟨(a ++ (m ++ b)).toArray⟩ : ByteArray).extract a.length (a.length + m.length) = ⟨m.toArray⟩ := by
  apply ByteArray.ext
  simp
theorem len_app (a b : List UInt8) : (a ++ b).length = a.length + b.length := List.length_append
theorem newRng_nat (R : Nat) (h : R ≤ 1048576) : newRng (R : Int) = ⟨R, [], false, 0⟩ := by
  unfold newRng
  congr 1
  omega
theorem add_o {s : Rng} {x : List UInt8} (h : s.o.length + x.length ≤ s.R) : (s.add x).o = s.o ++ x ∧ (s.add x).R = s.R ∧ (s.add x).D = s.D := by
  cases x with
  | nil => rw [(Rng.add_nil h).2]; simp
  | cons y x => rw [(Rng.add_yes h (by simp)).2]; simp [Rng.o]
theorem add_not {s : Rng} {x : List UInt8} (h : ¬ s.o.length + x.length ≤ s.R) : (s.add x).o = s.o ∧ (s.add x).R = s.R ∧ (s.add x).D = min (s.D + 1) 4294967295 := by
  rw [(Rng.add_no h).2]
  exact ⟨rfl, rfl, rfl⟩
end Go.Proofs.Ytpjhehfhpeclhaa

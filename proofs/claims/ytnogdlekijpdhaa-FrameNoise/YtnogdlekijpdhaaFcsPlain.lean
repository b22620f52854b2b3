/- Plain mathematics of the two checksums: the register, bit by bit, is linear and its step one to one; bytes followed by their own sum leave one number; a burst of at most sixteen bits is never lost. No condition on the program: nothing of it is named here. -/
namespace Go.Proofs.Ytnogdlekijpdhaa.Fcs
set_option linter.unusedVariables false

def stp {n : Nat} (P x : BitVec n) : BitVec n := (x >>> 1) ^^^ (if x.getLsbD 0 then P else 0#n)
def stpN {n : Nat} (P : BitVec n) : Nat → BitVec n → BitVec n
  | 0, x => x
  | k + 1, x => stp P (stpN P k x)
def upd {n : Nat} (P x : BitVec n) (c : UInt8) : BitVec n := stpN P 8 (x ^^^ c.toBitVec.setWidth n)
def reg {n : Nat} (P x : BitVec n) (l : List UInt8) : BitVec n := l.foldl (upd P) x
def crc {n : Nat} (P : BitVec n) (l : List UInt8) : BitVec n := ~~~ (reg P (BitVec.allOnes n) l)
def lo {n : Nat} (x : BitVec n) : UInt8 := UInt8.ofBitVec (x.setWidth 8)
def le {n : Nat} : Nat → BitVec n → List UInt8
  | 0, _ => []
  | m + 1, x => lo x :: le m (x >>> 8)

theorem le_len {n : Nat} : ∀ (m : Nat) (x : BitVec n), (le m x).length = m
  | 0, _ => rfl
  | m + 1, x => by simp [le, le_len m]

section
variable {n : Nat} (P : BitVec n)

theorem stp_zero : stp P 0#n = 0#n := by simp [stp]
theorem stpN_zero : ∀ k, stpN P k 0#n = 0#n
  | 0 => rfl
  | k + 1 => by simp [stpN, stpN_zero k, stp_zero]
theorem stp_xor (x y : BitVec n) : stp P (x ^^^ y) = stp P x ^^^ stp P y := by
  unfold stp
  rw [BitVec.ushiftRight_xor_distrib, BitVec.getLsbD_xor]
  cases x.getLsbD 0 <;> cases y.getLsbD 0 <;> simp
  · rw [BitVec.xor_assoc]
  · rw [BitVec.xor_assoc, BitVec.xor_assoc, BitVec.xor_comm P]
  · have : (x >>> 1 ^^^ P) ^^^ (y >>> 1 ^^^ P) = (x >>> 1 ^^^ y >>> 1) ^^^ (P ^^^ P) := by ac_rfl
    rw [this, BitVec.xor_self, BitVec.xor_zero]
theorem stpN_xor (x y : BitVec n) : ∀ k, stpN P k (x ^^^ y) = stpN P k x ^^^ stpN P k y
  | 0 => rfl
  | k + 1 => by simp only [stpN, stpN_xor x y k, stp_xor]
theorem stpN_succ' (x : BitVec n) : ∀ k, stpN P (k + 1) x = stpN P k (stp P x)
  | 0 => rfl
  | k + 1 => by rw [stpN, stpN_succ' x k]; rfl

theorem upd_xor (x y : BitVec n) (c d : UInt8) : upd P (x ^^^ y) (c ^^^ d) = upd P x c ^^^ upd P y d := by
  unfold upd
  rw [← stpN_xor]
  congr 1
  rw [UInt8.toBitVec_xor, BitVec.setWidth_xor]
  ac_rfl
theorem reg_xor : ∀ (a b : List UInt8) (x y : BitVec n), a.length = b.length → reg P (x ^^^ y) (List.zipWith (· ^^^ ·) a b) = reg P x a ^^^ reg P y b
  | [], [], _, _, _ => rfl
  | c :: a, d :: b, x, y, h => by
    simp only [List.zipWith_cons_cons, reg, List.foldl_cons, upd_xor]
    exact reg_xor a b _ _ (by simpa using h)
theorem reg_append (x : BitVec n) (a b : List UInt8) : reg P x (a ++ b) = reg P (reg P x a) b := by simp [reg]
theorem crc_eq (l : List UInt8) : crc P l = reg P (BitVec.allOnes n) l ^^^ BitVec.allOnes n := by
  rw [crc, BitVec.xor_allOnes]

theorem crc_linear (a b c : List UInt8) (h1 : b.length = a.length) (h2 : c.length = a.length) :
    crc P a ^^^ crc P b ^^^ crc P c = crc P (List.zipWith (· ^^^ ·) (List.zipWith (· ^^^ ·) a b) c) := by
  have e1 : BitVec.allOnes n = (BitVec.allOnes n ^^^ BitVec.allOnes n) ^^^ BitVec.allOnes n := by simp
  have := reg_xor P (List.zipWith (· ^^^ ·) a b) c (BitVec.allOnes n ^^^ BitVec.allOnes n) (BitVec.allOnes n) (by simp; omega)
  rw [reg_xor P a b _ _ (by omega), ← e1] at this
  simp only [crc_eq, this]
  generalize reg P (BitVec.allOnes n) a = A
  generalize reg P (BitVec.allOnes n) b = B
  generalize reg P (BitVec.allOnes n) c = C
  have : A ^^^ BitVec.allOnes n ^^^ (B ^^^ BitVec.allOnes n) ^^^ (C ^^^ BitVec.allOnes n) = A ^^^ B ^^^ C ^^^ ((BitVec.allOnes n ^^^ BitVec.allOnes n) ^^^ BitVec.allOnes n) := by ac_rfl
  rw [this, ← e1]

theorem stpN_low : ∀ (k : Nat) (x : BitVec n), (∀ i, i < k → x.getLsbD i = false) → stpN P k x = x >>> k
  | 0, x, _ => by simp [stpN]
  | k + 1, x, h => by
    have h0 : x.getLsbD 0 = false := h 0 (by omega)
    have hs : stp P x = x >>> 1 := by simp [stp, h0]
    rw [stpN_succ', hs, stpN_low k _ (fun i hi => by rw [BitVec.getLsbD_ushiftRight]; exact h (1 + i) (by omega)), ← BitVec.shiftRight_add, Nat.add_comm]
theorem upd_low (x : BitVec n) : upd P x (lo x) = x >>> 8 := by
  unfold upd lo
  rw [stpN_low]
  · apply BitVec.eq_of_getLsbD_eq
    intro i hi
    simp [BitVec.getLsbD_ushiftRight, BitVec.getLsbD_setWidth]
  · intro i hi
    simp [BitVec.getLsbD_setWidth, hi]
    intro h1
    exact BitVec.lt_of_getLsbD h1
theorem reg_le : ∀ (m : Nat) (x : BitVec n), reg P x (le m x) = x >>> (8 * m)
  | 0, x => by simp [reg, le]
  | m + 1, x => by
    have := reg_le m (x >>> 8)
    simp only [reg, le, List.foldl_cons, upd_low] at this ⊢
    rw [this, ← BitVec.shiftRight_add]
    congr 1; omega
theorem lo_xor (x y : BitVec n) : lo (x ^^^ y) = lo x ^^^ lo y := by
  unfold lo
  rw [BitVec.setWidth_xor]
  rfl
theorem le_xor : ∀ (m : Nat) (x y : BitVec n), le m (x ^^^ y) = List.zipWith (· ^^^ ·) (le m x) (le m y)
  | 0, _, _ => rfl
  | m + 1, x, y => by simp only [le, List.zipWith_cons_cons, lo_xor, BitVec.ushiftRight_xor_distrib, le_xor m]
theorem reg_tail (m : Nat) (hm : n ≤ 8 * m) (R T : BitVec n) : reg P R (le m T) = reg P (R ^^^ T) (le m 0#n) := by
  have h := reg_xor P (le m 0#n) (le m T) (R ^^^ T) T (by simp [le_len])
  rw [← le_xor, reg_le, BitVec.zero_xor, BitVec.xor_assoc, BitVec.xor_self, BitVec.xor_zero] at h
  rw [h, BitVec.ushiftRight_eq_zero hm, BitVec.xor_zero]

/-- What every text with its sum behind it leaves in the register. -/
theorem reg_sum (m : Nat) (hm : n ≤ 8 * m) (l : List UInt8) : reg P (BitVec.allOnes n) (l ++ le m (crc P l)) = reg P (BitVec.allOnes n) (le m 0#n) := by
  rw [reg_append, reg_tail P m hm, crc]
  congr 1
  generalize reg P (BitVec.allOnes n) l = R
  rw [← BitVec.xor_allOnes, ← BitVec.xor_assoc, BitVec.xor_self, BitVec.zero_xor]
theorem crc_rest (m : Nat) (hm : n ≤ 8 * m) (l : List UInt8) : crc P (l ++ le m (crc P l)) = crc P ([] ++ le m (crc P [])) := by
  unfold crc
  have h1 := reg_sum P m hm l
  have h2 := reg_sum P m hm []
  unfold crc at h1 h2
  rw [h1, h2]

/-! bits -/
def bit (n : Nat) (b : Bool) : BitVec n := if b then 1#n else 0#n
def bupd (x : BitVec n) (b : Bool) : BitVec n := stp P (x ^^^ bit n b)
def ob : List Bool → BitVec n
  | [] => 0#n
  | b :: M => (ob M <<< 1) ^^^ bit n b
theorem ob_bit : ∀ (M : List Bool) (i : Nat), (ob M : BitVec n).getLsbD i = (decide (i < n) && M.getD i false)
  | [], i => by simp [ob]
  | b :: M, i => by
    rw [ob, BitVec.getLsbD_xor, BitVec.getLsbD_shiftLeft, ob_bit M]
    cases i with
    | zero =>
      cases b
      · simp [bit]
      · by_cases h : 0 < n <;> simp [bit, h]
    | succ i =>
      have hb : (bit n b).getLsbD (i + 1) = false := by cases b <;> simp [bit]
      rw [hb]
      by_cases h : i + 1 < n
      · simp [h, show i < n by omega]
      · simp [h]
theorem foldl_bits : ∀ (M : List Bool) (x : BitVec n), M.length ≤ n → M.foldl (bupd P) x = stpN P M.length (x ^^^ ob M)
  | [], x, _ => by simp [ob, stpN]
  | b :: M, x, h => by
    have h' : M.length + 1 ≤ n := by simpa using h
    rw [List.foldl_cons, foldl_bits M _ (by omega), List.length_cons, stpN_succ']
    congr 1
    rw [ob, ← BitVec.xor_assoc, BitVec.xor_assoc x, BitVec.xor_comm (ob M <<< 1), ← BitVec.xor_assoc, stp_xor]
    unfold bupd
    congr 1
    have h0 : (ob M <<< 1 : BitVec n).getLsbD 0 = false := by simp
    simp only [stp, h0]
    apply BitVec.eq_of_getLsbD_eq
    intro i hi
    rw [BitVec.getLsbD_xor, BitVec.getLsbD_ushiftRight, BitVec.getLsbD_shiftLeft, ob_bit, ob_bit]
    by_cases hn : 1 + i < n
    · simp [hn, hi]
    · have hl : M.length ≤ i := by omega
      simp [List.getElem?_eq_none hl]
def bits8 (c : UInt8) : List Bool := (List.range 8).map c.toBitVec.getLsbD
theorem bits8_len (c : UInt8) : (bits8 c).length = 8 := by simp [bits8]
theorem upd_bits (hn : 8 ≤ n) (x : BitVec n) (c : UInt8) : upd P x c = (bits8 c).foldl (bupd P) x := by
  rw [foldl_bits P _ _ (by rw [bits8_len]; exact hn), bits8_len, upd]
  congr 2
  apply BitVec.eq_of_getLsbD_eq
  intro i hi
  rw [ob_bit, BitVec.getLsbD_setWidth]
  simp only [hi, decide_true, Bool.true_and]
  by_cases h8 : i < 8
  · simp [bits8, h8]
  · rw [List.getD_eq_getElem?_getD, List.getElem?_eq_none (by rw [bits8_len]; omega)]
    exact BitVec.getLsbD_of_ge _ _ (by omega)
def lbits (l : List UInt8) : List Bool := l.flatMap bits8
theorem reg_bits (hn : 8 ≤ n) : ∀ (l : List UInt8) (x : BitVec n), reg P x l = (lbits l).foldl (bupd P) x
  | [], _ => rfl
  | c :: l, x => by
    have := reg_bits hn l (upd P x c)
    simp only [reg, lbits, List.foldl_cons, List.flatMap_cons, List.foldl_append] at this ⊢
    rw [this, upd_bits P hn]
theorem stp_inj (hP : P.getLsbD (n - 1) = true) (x : BitVec n) (h : stp P x = 0#n) : x = 0#n := by
  unfold stp at h
  cases h0 : x.getLsbD 0
  · simp only [h0, Bool.false_eq_true, if_false, BitVec.xor_zero] at h
    apply BitVec.eq_of_getLsbD_eq
    intro i hi
    cases i with
    | zero => simpa using h0
    | succ i =>
      have := congrArg (fun y => y.getLsbD i) h
      simp only [BitVec.getLsbD_ushiftRight, Nat.add_comm 1 i] at this
      simpa using this
  · simp only [h0, if_true] at h
    have hn : 0 < n := by have := BitVec.lt_of_getLsbD h0; omega
    have := congrArg (fun y => y.getLsbD (n - 1)) h
    simp only [BitVec.getLsbD_xor, BitVec.getLsbD_ushiftRight, hP] at this
    rw [BitVec.getLsbD_of_ge x _ (by omega)] at this
    simp at this
theorem stpN_inj (hP : P.getLsbD (n - 1) = true) : ∀ (k : Nat) (x : BitVec n), stpN P k x = 0#n → x = 0#n
  | 0, _, h => h
  | k + 1, x, h => stpN_inj hP k x (stp_inj P hP _ h)
theorem foldl_false (x : BitVec n) : ∀ (M : List Bool), (∀ b ∈ M, b = false) → M.foldl (bupd P) x = stpN P M.length x
  | [], _ => rfl
  | b :: M, h => by
    have hb : b = false := h b (by simp)
    subst hb
    rw [List.foldl_cons, foldl_false _ M (fun b hb => h b (by simp [hb])), List.length_cons, stpN_succ']
    simp [bupd, bit]
theorem burst (hn : 16 ≤ n) (hP : P.getLsbD (n - 1) = true) (L : List Bool) (s : Nat) (ho : ∀ t, (t < s ∨ s + 16 ≤ t) → L.getD t false = false) (h : L.foldl (bupd P) 0#n = 0#n) :
    ∀ t, L.getD t false = false := by
  have e : L = L.take s ++ ((L.drop s).take 16 ++ (L.drop s).drop 16) := by rw [List.take_append_drop, List.take_append_drop]
  rw [e, List.foldl_append, List.foldl_append, foldl_false P 0#n (L.take s), stpN_zero] at h
  · rw [foldl_false P _ ((L.drop s).drop 16)] at h
    · have h2 := stpN_inj P hP _ _ h
      rw [foldl_bits P _ _ (by simp; omega), BitVec.zero_xor] at h2
      have h3 := stpN_inj P hP _ _ h2
      intro t
      by_cases ht : t < s ∨ s + 16 ≤ t
      · exact ho t ht
      · have h4 := congrArg (fun y => y.getLsbD (t - s)) h3
        simp only [ob_bit] at h4
        have ht1 : t - s < 16 := by omega
        have ht2 : s + (t - s) = t := by omega
        rw [decide_eq_true (show t - s < n by omega)] at h4
        simpa [List.getElem?_take, ht1, ht2] using h4
    · intro b hb
      obtain ⟨i, hi, rfl⟩ := List.getElem_of_mem hb
      have := ho (s + 16 + i) (by omega)
      rw [List.drop_drop] at hi
      simp only [List.length_drop] at hi
      rw [List.getD_eq_getElem?_getD, List.getElem?_eq_getElem (by omega)] at this
      simpa using this
  · intro b hb
    obtain ⟨i, hi, rfl⟩ := List.getElem_of_mem hb
    simp only [List.length_take] at hi
    have := ho i (by omega)
    rw [List.getD_eq_getElem?_getD, List.getElem?_eq_getElem (by omega)] at this
    simpa using this
end

/-! the bit at a place of a text -/
def bitAt (l : List UInt8) (t : Nat) : Bool := (l.getD (t / 8) 0).toBitVec.getLsbD (t % 8)
theorem lbits_get : ∀ (l : List UInt8) (t : Nat), (lbits l).getD t false = bitAt l t
  | [], t => by simp [lbits, bitAt]
  | c :: l, t => by
    have ih := lbits_get l (t - 8)
    rw [lbits, List.flatMap_cons]
    by_cases h : t < 8
    · rw [List.getD_eq_getElem?_getD, List.getElem?_append_left (by rw [bits8_len]; exact h)]
      have h1 : t / 8 = 0 := by omega
      have h2 : t % 8 = t := by omega
      simp [bitAt, h1, h2, bits8, h]
    · rw [List.getD_eq_getElem?_getD, List.getElem?_append_right (by rw [bits8_len]; omega), bits8_len, ← List.getD_eq_getElem?_getD]
      rw [lbits] at ih
      rw [ih]
      have h1 : t / 8 = (t - 8) / 8 + 1 := by omega
      have h2 : t % 8 = (t - 8) % 8 := by omega
      simp [bitAt, h1, h2]
theorem bitAt_xor (a b : List UInt8) (h : a.length = b.length) (t : Nat) : bitAt (List.zipWith (· ^^^ ·) a b) t = (bitAt a t ^^ bitAt b t) := by
  unfold bitAt
  by_cases hl : t / 8 < a.length
  · simp [List.getElem?_zipWith, List.getElem?_eq_getElem hl, List.getElem?_eq_getElem (h ▸ hl)]
  · simp [List.getElem?_zipWith, List.getElem?_eq_none (Nat.le_of_not_lt hl), List.getElem?_eq_none (h ▸ Nat.le_of_not_lt hl)]
theorem bitAt_set (l : List UInt8) (j : Nat) (hj : j / 8 < l.length) (t : Nat) :
    bitAt (l.set (j / 8) (l.getD (j / 8) 0 ^^^ UInt8.ofBitVec (1#8 <<< (j % 8)))) t = (bitAt l t ^^ decide (t = j)) := by
  unfold bitAt
  by_cases e : t / 8 = j / 8
  · rw [e]
    have h8 : t % 8 < 8 := by omega
    have hd : decide (t = j) = decide (t % 8 = j % 8) := by
      rw [decide_eq_decide]; omega
    simp [hj, hd]
    by_cases h2 : t % 8 = j % 8
    · simp [h2, show j % 8 < 8 by omega]
    · simp [h2, h8]
      omega
  · have ht : t ≠ j := by rintro rfl; exact e rfl
    have hd : decide (t = j) = false := by simpa using ht
    simp [Ne.symm e, hd]

/-- A text with its sum behind it, some of whose bits from s on, at most sixteen of them side by side, are turned: the sum behind it no longer fits. -/
theorem turned_told {n : Nat} (P : BitVec n) (m : Nat) (h16 : 16 ≤ n) (hm : n ≤ 8 * m) (hP : P.getLsbD (n - 1) = true) (l body : List UInt8) (p' : List UInt8) (hlen : p'.length = l.length + m)
    (s : Nat) (ho : ∀ t, (t < s ∨ s + 16 ≤ t) → bitAt p' t = bitAt (l ++ le m (crc P l)) t) (t0 : Nat) (ht : bitAt p' t0 ≠ bitAt (l ++ le m (crc P l)) t0)
    (hb : p' = body ++ le m (crc P body)) : False := by
  have h1 := reg_sum P m hm l
  have h2 := reg_sum P m hm body
  rw [← hb] at h2
  have hl : (l ++ le m (crc P l)).length = p'.length := by simp [le_len, hlen]
  have h3 := reg_xor P _ _ (BitVec.allOnes n) (BitVec.allOnes n) hl
  rw [h1, h2, BitVec.xor_self, BitVec.xor_self, reg_bits P (by omega)] at h3
  have h4 := burst P h16 hP _ s (fun t ht => by rw [lbits_get, bitAt_xor _ _ hl, ho t ht]; simp) h3 t0
  rw [lbits_get, bitAt_xor _ _ hl] at h4
  apply ht
  revert h4
  cases bitAt p' t0 <;> cases bitAt (l ++ le m (crc P l)) t0 <;> simp

end Go.Proofs.Ytnogdlekijpdhaa.Fcs

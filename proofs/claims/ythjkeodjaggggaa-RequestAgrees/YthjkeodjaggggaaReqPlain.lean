/- The plain mathematics of switching requests: what a station asks for, which of two requests wins, the line that a request selects. No condition. -/
namespace Go.Proofs.Ythjkeodjaggggaa
/-- What a station asks for, given its operator's command and the states of its lines. -/
def loc (c w s : Int) : Int :=
  if c = 3 then 8 else if s = 2 then 7 else if c = 2 then 6 else if w = 2 then 5 else if w = 1 then 4 else if c = 1 then 3 else 0
/-- The request as which a number counts. -/
def cntd (q : Int) : Int := if q < 0 then 0 else if 8 < q then 0 else q
def win (a b : Int) : Int := max (cntd a) (cntd b)
def lin (q : Int) : Int := if q < 1 then 0 else if 6 < q then 0 else 1
theorem cntd_bd (q : Int) : 0 ≤ cntd q ∧ cntd q ≤ 8 := by unfold cntd; split; omega; split <;> omega
theorem cntd_same {q : Int} (h0 : 0 ≤ q) (h1 : q ≤ 8) : cntd q = q := by unfold cntd; rw [if_neg (by omega), if_neg (by omega)]
theorem win_bd (a b : Int) : 0 ≤ win a b ∧ win a b ≤ 8 := by
  have h := cntd_bd a; have k := cntd_bd b; unfold win; omega
theorem win_mid {a b : Int} (a0 : 0 ≤ a) (a1 : a ≤ 8) (b0 : 0 ≤ b) (b1 : b ≤ 8) : win a b = max a b := by
  unfold win; rw [cntd_same a0 a1, cntd_same b0 b1]
theorem win_swap (a b : Int) : win a b = win b a := by unfold win; omega
end Go.Proofs.Ythjkeodjaggggaa

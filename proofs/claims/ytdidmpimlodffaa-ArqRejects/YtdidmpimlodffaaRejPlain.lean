/- An end that is Up and receives what comes in any order, plainly: what it answers. No condition. -/
import Derived.Test.YtdidmpimlodffaaG15
namespace Go.Proofs.Ytdidmpimlodffaa
set_option linter.unusedVariables false

/-- an end that only receives: its tag is 9 -/
structure Rej (s : Aq) (o : Od) (rj : Bool) : Prop where
  ok : s.Ok
  st : s.st = 2
  tg : s.tg = 9
  m : s.m = 128
  f : s.lg.f = 0
  n : s.lg.n = 0
  l : s.lg.l = []
  sz : s.sz = 50
  od : s.od = o
  rj : s.rj = rj
theorem rej_enc : ∀ n : Fin 128, enc 0 ((n.val : Nat) : Int) 0 false 128 = [UInt8.ofNat (2 * n.val), 0] ∧ enc 1 0 ((n.val : Nat) : Int) false 128 = [1, UInt8.ofNat (2 * n.val)] ∧ enc 2 0 ((n.val : Nat) : Int) false 128 = [9, UInt8.ofNat (2 * n.val)] := by decide +kernel
/-- is the gap told now? -/
def rejNow (o : Od) (n : Nat) (x : List UInt8) (rj : Bool) : Bool := (o.put n x).gap && !(if 0 < o.putN n x then false else rj)
def rejNext (o : Od) (n : Nat) (x : List UInt8) (rj : Bool) : Bool := if rejNow o n x rj then true else if 0 < o.putN n x then false else rj
theorem Rej.step {s : Aq} {o : Od} {rj : Bool} (h : Rej s o rj) {n : Nat} (hn : n < 128) {x : List UInt8} (hx : x.length ≤ 50) :
    ∃ S : Aq, s.input ([0, 9, UInt8.ofNat (2 * n), 0] ++ x) = S ∧ Rej S (o.put n x) (rejNext o n x rj) ∧ S.os = s.os ++ [[0, 9, if rejNow o n x rj then 9 else 1, UInt8.ofNat (2 * (o.put n x).e)]] ∧ S.is = s.is ∧ S.sn = s.sn ∧ S.ak = s.ak ∧ S.lo = s.lo := by
  obtain ⟨ok, hst, htg, hm, hf, hn0, hl, hsz, rfl, rfl⟩ := h
  have e := (rej_enc ⟨n, hn⟩).1
  have e : enc 0 (n : Int) 0 false 128 = [UInt8.ofNat (2 * n), 0] := e
  have hom : s.od.m = 128 := by rw [ok.odm, hm]
  have ok' := ok.recvd (n : Int) (x := x) (by omega)
  have hput : (s.od.put (n : Int) x).Ok := ok.od.put _ (by omega)
  have hpm : (s.od.put (n : Int) x).m = 128 := (Aq.put_m ..).trans hom
  have he : (s.od.put (n : Int) x).e < 128 := by have := hput.e9; rw [hpm] at this; exact this
  obtain ⟨-, r1, r2⟩ := rej_enc ⟨(s.od.put (n : Int) x).e, he⟩
  have r1 : enc 1 0 (((s.od.put (n : Int) x).e : Nat) : Int) false 128 = [1, UInt8.ofNat (2 * (s.od.put (n : Int) x).e)] := r1
  have r2 : enc 2 0 (((s.od.put (n : Int) x).e : Nat) : Int) false 128 = [9, UInt8.ofNat (2 * (s.od.put (n : Int) x).e)] := r2
  have hin : s.input ([0, 9, UInt8.ofNat (2 * n), 0] ++ x) = (s.recvd (n : Int) x).answer false := by
    have h1 := Aq.input_enc (s := s) (t := 9) (by decide) (p := false) (x := x) (Aq.right_I (m := s.m) ok.m2 (ns := n) (nr := 0) (by omega) (by omega))
    rw [hm] at h1
    have h1 : s.input (Aq.hd 9 ++ enc 0 (n : Int) 0 false 128 ++ x) = s.proc 9 0 (n : Int) 0 false x := h1
    rw [e] at h1
    refine h1.trans ?_
    have ha : s.acks 0 = s := by
      have := Aq.acks_none (s := s) (by rw [hf]; have := ok.lg.f9; omega)
      rw [hf] at this
      exact this
    unfold Aq.proc
    rw [if_neg (by decide), if_neg (by decide), if_neg (by decide), if_neg (by decide), if_neg (by decide)]
    unfold Aq.numbd
    rw [if_neg (by rw [hst]; decide), if_pos ⟨htg.symm, hst⟩, if_neg (fun e => by have := e.2; omega)]
    unfold Aq.exch
    rw [if_pos rfl, if_neg (by simp), ha]
    unfold Aq.take
    refine Aq.pump_none ?_
    have hlg : ((s.recvd (n : Int) x).answer false).lg = s.lg := by
      unfold Aq.answer
      split <;> rfl
    rw [hlg, hn0, hl]
    rfl
  by_cases hg : rejNow s.od n x s.rj = true
  · have hg2 := hg
    unfold rejNow at hg2
    rw [Bool.and_eq_true, Bool.not_eq_true'] at hg2
    have ea : (s.recvd (n : Int) x).answer false = ((s.recvd (n : Int) x).setRj true).send 2 false := by
      unfold Aq.answer
      exact if_pos hg2
    refine ⟨_, hin.trans ea, ⟨(ok'.setRj true).send _ _, hst, htg, hm, hf, hn0, hl, hsz, rfl, ?_⟩, ?_, rfl, rfl, rfl, rfl⟩
    · show true = rejNext s.od n x s.rj
      unfold rejNext
      rw [hg, if_pos rfl]
    · show s.os ++ [Aq.hd s.tg ++ enc 2 0 (Aq.nrOf ((s.recvd (n : Int) x).setRj true) 2) false s.m ++ []] = _
      have e1 : Aq.nrOf ((s.recvd (n : Int) x).setRj true) 2 = (((s.od.put (n : Int) x).e : Nat) : Int) := by
        unfold Aq.nrOf
        rw [if_pos (.inr rfl)]
        rfl
      have r3 : enc 2 0 (((s.od.put (n : Int) x).e : Nat) : Int) false ((128 : Nat) : Int) = [9, UInt8.ofNat (2 * (s.od.put (n : Int) x).e)] := r2
      rw [e1, htg, hm, r3, hg, if_pos rfl, List.append_nil]
      rfl
  · have hg0 : rejNow s.od n x s.rj = false := by simpa using hg
    have ea : (s.recvd (n : Int) x).answer false = (s.recvd (n : Int) x).send 1 false := by
      unfold Aq.answer
      refine if_neg (fun hh => hg ?_)
      unfold rejNow
      rw [Bool.and_eq_true, Bool.not_eq_true']
      exact hh
    refine ⟨_, hin.trans ea, ⟨ok'.send _ _, hst, htg, hm, hf, hn0, hl, hsz, rfl, ?_⟩, ?_, rfl, rfl, rfl, rfl⟩
    · show (if 0 < s.od.putN (n : Int) x then false else s.rj) = rejNext s.od n x s.rj
      unfold rejNext
      rw [hg0]
      rfl
    · show s.os ++ [Aq.hd s.tg ++ enc 1 0 (Aq.nrOf (s.recvd (n : Int) x) 1) false s.m ++ []] = _
      have e1 : Aq.nrOf (s.recvd (n : Int) x) 1 = (((s.od.put (n : Int) x).e : Nat) : Int) := by
        unfold Aq.nrOf
        rw [if_pos (.inl rfl)]
        rfl
      have r3 : enc 1 0 (((s.od.put (n : Int) x).e : Nat) : Int) false ((128 : Nat) : Int) = [1, UInt8.ofNat (2 * (s.od.put (n : Int) x).e)] := r1
      rw [e1, htg, hm, r3, hg0, List.append_nil]
      rfl
theorem rej_enc3 : enc 3 0 0 false 128 = [111] := by decide +kernel
/-- the connect of the tag 9 at a new end -/
theorem rej_start (W Q : Int) (hsz : (Aq.newC ⟨0, 128, W, 10, 3, 0, 0, 0, Q, 50, 0, 0, 0, 0, false, false⟩).sz = 50) : ∃ S : Aq, (Aq.newC ⟨0, 128, W, 10, 3, 0, 0, 0, Q, 50, 0, 0, 0, 0, false, false⟩).input [0, 9, 111] = S ∧ Rej S.output (Od.new 128 W) false ∧ S.od.all = 0 ∧ S.sn = 0 ∧ S.ak = 0 ∧ S.lo = 0 ∧ S.is.length = 1 := by
  generalize hc : (⟨0, 128, W, 10, 3, 0, 0, 0, Q, 50, 0, 0, 0, 0, false, false⟩ : Cf) = c at *
  have hm : (Aq.newC c).m = 128 := by rw [← hc]; rfl
  have hod : (Aq.newC c).od = Od.new 128 W := by rw [← hc]; rfl
  have hs : (Aq.newC c).st = 0 := rfl
  have ht : (Aq.newC c).tg = 0 := rfl
  have ha : (Aq.newC c).ahead 9 = true := by unfold Aq.ahead; rw [ht]; decide
  have h1 := Aq.input_enc (s := Aq.newC c) (t := 9) (by decide) (p := false) (x := []) (Aq.right_bare (k := 3) (m := (Aq.newC c).m) (.inl hm) (by decide))
  have e : enc 3 0 0 false (((Aq.newC c).m : Nat) : Int) = [111] := by rw [hm]; exact rej_enc3
  rw [e, List.append_nil] at h1
  have h2 : (Aq.newC c).proc 9 3 0 0 false [] = (Aq.newC c).accept 9 false := by
    simp [Aq.proc, Aq.request, hs, ha]
  refine ⟨(Aq.newC c).accept 9 false, h1.trans h2, ⟨((Aq.new_ok c.md c.W c.t1 c.n2 c.q c.sz).accept (by decide) false).output, rfl, rfl, hm, rfl, rfl, rfl, hsz, ?_, rfl⟩, ?_, rfl, rfl, rfl, rfl⟩
  · show (Aq.newC c).od.clear = _
    rw [hod]
    rfl
  · show (Aq.newC c).od.clear.all = 0
    rw [hod]
    rfl
end Go.Proofs.Ytdidmpimlodffaa

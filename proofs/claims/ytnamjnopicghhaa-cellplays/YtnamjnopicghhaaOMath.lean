/- Operations and events: plain mathematics; nothing of the program. -/
import Derived.RowKit
import Derived.Test.YtnamjnopicghhaaMathW
namespace Go.Proofs.Ytnamjnopicghhaa.O.MO
open Go.Proofs.Ytnamjnopicghhaa.M (rightB)
open Go.RowKit

structure Ev where
  t : Int
  k : Int
  v : Int
  l : Int
structure Oq where
  k : Int
  n : Int
abbrev zeroE : Ev := ⟨0, 0, 0, 0⟩
/-- The remainder from 0 on. -/
def rem0 (v n : Int) : Int := if v.tmod n < 0 then v.tmod n + n else v.tmod n
/-- What an operation makes of an event. -/
def app (o : Oq) (e : Ev) : Ev × Bool :=
  if o.k = 1 then (⟨e.t, e.k, wrap64 (e.v + o.n), e.l⟩, true)
  else if o.k = 2 then (⟨e.t, e.k, wrap64 (e.v * o.n), e.l⟩, true)
  else if o.k = 3 then (if o.n < 1 then (zeroE, false) else (⟨e.t, rem0 e.v o.n, e.v, e.l⟩, true))
  else if o.k = 4 then (if o.n < e.v then (e, true) else (zeroE, false))
  else if o.k = 5 then (if e.v < o.n then (e, true) else (zeroE, false))
  else if o.k = 6 then (if e.k = o.n then (e, true) else (zeroE, false))
  else (zeroE, false)
/-- What operations make of an event, one by one. -/
def run : List Oq → Ev → Ev × Bool
  | [], e => (e, true)
  | o :: r, e => match app o e with
    | (e', true) => run r e'
    | (_, false) => (zeroE, false)
def rightO (o : Oq) : Bool :=
  if o.k = 3 then decide (1 ≤ o.n ∧ o.n ≤ 256) else if o.k = 6 then decide (0 ≤ o.n ∧ o.n ≤ 255) else decide (1 ≤ o.k ∧ o.k ≤ 5)
def rightL (l : List Oq) : Bool := decide (l.length ≤ 6) && l.all rightO
structure Pq where
  os : List Oq
  n : Int
  s : Int
  a : Int
  k : Int
  f : Int
def sinkB (x : Int) : Bool := decide (-1 ≤ x ∧ x ≤ 3)
def rightP (p : Pq) : Bool := rightL p.os && (rightB p.n p.s && (decide (1 ≤ p.a ∧ p.a ≤ 4) && (sinkB p.k && sinkB p.f)))
end Go.Proofs.Ytnamjnopicghhaa.O.MO

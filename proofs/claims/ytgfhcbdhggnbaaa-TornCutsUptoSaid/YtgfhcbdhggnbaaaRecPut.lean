/- The bytes of a record: the walks of record.put. -/
import Derived.Test.YtgfhcbdhggnbaaaRecHeap
namespace Go.Proofs.Ytgfhcbdhggnbaaa.Rec
open Go.Proofs.Ytgfhcbdhggnbaaa.Mem Go.Proofs.Ytgfhcbdhggnbaaa.Pack
open Go.ChangeShapes Go.WideShapes Go.ChangeAt Go.RowKit
set_option linter.unusedVariables false

/- What a call that puts a record behind a row answers. -/
def Puts (base : Nat) (w : World) (xs : List Int) (len : Nat) (r : Rcd) (e : Ending) (w' : World) : Prop :=
  ∃ v', e = .returned v' ∧ w'.ownsRow base 5 1 v' (len + (bytesOf r).length) (cellsOf (xs ++ bytesOf r)) ∧ Below base w w'
theorem row_eq {w : World} {base n n' : Nat} {e : TypeId} {v : Value} {xs xs' : List Int} (h : w.ownsRow base e 1 v n (cellsOf xs)) (hn : n = n') (hx : xs = xs') : w.ownsRow base e 1 v n' (cellsOf xs') := by
  subst hn hx; exact h
end Go.Proofs.Ytgfhcbdhggnbaaa.Rec

/- What put answers. -/
import Derived.Test.YtbdbbnpkekcefaaCmdParts
namespace Go.Proofs.Ytbdbbnpkekcefaa.Cmd
open Go.Proofs.Ytbdbbnpkekcefaa.Mem Go.Proofs.Ytbdbbnpkekcefaa.Pack
open Go.ChangeShapes Go.WideShapes Go.ChangeAt Go.RowKit
set_option linter.unusedVariables false
set_option linter.unusedSimpArgs false

def PutIs (q : Rq) (w : World) (e : Ending) (w' : World) : Prop := ∃ v, e = .returned v ∧ w'.ownsRow w.heap.size 5 1 v (bytesOf q).length (cellsOf (bytesOf q)) ∧ Below w.heap.size w w'
end Go.Proofs.Ytbdbbnpkekcefaa.Cmd

/- What read answers. -/
import Derived.Test.YtbdbbnpkekcefaaCmdNextOps
import Derived.Test.YtbdbbnpkekcefaaCmdParts
namespace Go.Proofs.Ytbdbbnpkekcefaa.Cmd
open Go.Proofs.Ytbdbbnpkekcefaa.Mem Go.Proofs.Ytbdbbnpkekcefaa.Pack
open Go.ChangeShapes Go.WideShapes Go.ChangeAt Go.RowKit
set_option linter.unusedVariables false
set_option linter.unusedSimpArgs false

def ReadIs (P : Pos) (w : World) (e : Ending) (w' : World) : Prop := ∃ sv, e = .returned (rv (readRq P) sv) ∧ OpsFrom w.heap.size w' sv (readRq P).ops ∧ Below w.heap.size w w'
theorem rdBody_ops6 {t : Int} (h : 6 ≤ t ∧ t ≤ 9) (Q : Pos) : rdBody t Q = ⟨t, 0, 0, zeroQuo, rdTok Q, opsRead t (endTok Q), nothing, false, 0, 0, 0⟩ := by
  unfold opsRead
  by_cases h9 : t = 9
  · rw [rdBody_c9 h9, if_pos h9]
  · rw [rdBody_c6 (by omega), if_neg h9]
end Go.Proofs.Ytbdbbnpkekcefaa.Cmd

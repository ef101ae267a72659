/- Errors of api's own type: how they lie in an error, and what == says of two. -/
import Derived.Test.YtgjofinbdigmcaaProg
import Derived.Test.YtgjofinbdigmcaaOwn
import Derived.WalkKit
import Derived.ProofKit
import Derived.Below
import Derived.Outline
import Derived.WalkSpells
import Derived.WalkLawsBesides
import Derived.LoopTactic
import Derived.Lib.Hide
namespace Go.Proofs.Ytgjofinbdigmcaa.Err
open Go.Proofs.Ytgjofinbdigmcaa.Mem
open Go.ChangeShapes Go.WideShapes Go.ChangeAt Go.RowKit
set_option linter.unusedVariables false

def errV (c : Int) : Value := if c = 0 then .nilIface else .iface 85 (.int .i64 c)
theorem errV_zero : errV 0 = .nilIface := rfl
theorem errV_some {c : Int} (h : c ≠ 0) : errV c = .iface 85 (.int .i64 c) := if_neg h
theorem code_same : ∃ i, Try.prog.info? 85 = some i ∧ i.comparable = true := by
  have h : (Try.prog.info? 85).map (fun i => i.comparable) = some true := by kernel_rfl
  obtain ⟨i, hi, hc⟩ := Option.map_eq_some_iff.1 h
  exact ⟨i, hi, hc⟩
/- Two errors of api's own type are one just if their numbers are. -/
theorem code_deep (d : Nat) (a b : Int) (w : World) : (Op.equalIn (d + 1 + 1) 62 (.iface 85 (.int .i64 a)) (.iface 85 (.int .i64 b))).run Try.prog w = .ok (a == b) w := by
  obtain ⟨i, hi, hc⟩ := code_same
  unfold Op.equalIn
  simp [Op.equalIn, run_underlying Try.underlying62, run_underlying Try.underlying85, typeInfo, hi, hc]
theorem code_equal (a b : Int) (w : World) : (Op.equal 62 (.iface 85 (.int .i64 a)) (.iface 85 (.int .i64 b))).run Try.prog w = .ok (a == b) w := code_deep 9998 a b w
theorem code_eql (a b : Int) (w : World) : (binOp .eql 62 (.iface 85 (.int .i64 a)) (.iface 85 (.int .i64 b))).run Try.prog w = .ok (.bool (a == b)) w := by
  simp [binOp, code_equal]
theorem code_neq (a b : Int) (w : World) : (binOp .neq 62 (.iface 85 (.int .i64 a)) (.iface 85 (.int .i64 b))).run Try.prog w = .ok (.bool (!(a == b))) w := by
  simp [binOp, code_equal]
end Go.Proofs.Ytgjofinbdigmcaa.Err

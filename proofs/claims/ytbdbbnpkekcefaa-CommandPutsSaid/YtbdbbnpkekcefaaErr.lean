/- Errors of api's own type: how they lie in an error, and what == says of two. -/
import Derived.Test.YtbdbbnpkekcefaaProg
import Derived.Test.YtbdbbnpkekcefaaOwn
import Derived.WalkKit
import Derived.ProofKit
import Derived.Below
import Derived.Outline
import Derived.WalkSpells
import Derived.WalkLawsBesides
import Derived.LoopTactic
import Derived.Lib.Hide
namespace Go.Proofs.Ytbdbbnpkekcefaa.Err
open Go.Proofs.Ytbdbbnpkekcefaa.Mem
open Go.ChangeShapes Go.WideShapes Go.ChangeAt Go.RowKit
set_option linter.unusedVariables false

def errV (c : Int) : Value := if c = 0 then .nilIface else .iface 57 (.int .i64 c)
theorem errV_zero : errV 0 = .nilIface := rfl
theorem errV_some {c : Int} (h : c ≠ 0) : errV c = .iface 57 (.int .i64 c) := if_neg h
theorem code_same : ∃ i, Try.prog.info? 57 = some i ∧ i.comparable = true := by
  have h : (Try.prog.info? 57).map (fun i => i.comparable) = some true := by kernel_rfl
  obtain ⟨i, hi, hc⟩ := Option.map_eq_some_iff.1 h
  exact ⟨i, hi, hc⟩
/- Two errors of api's own type are one just if their numbers are. -/
theorem code_deep (d : Nat) (a b : Int) (w : World) : (Op.equalIn (d + 1 + 1) 34 (.iface 57 (.int .i64 a)) (.iface 57 (.int .i64 b))).run Try.prog w = .ok (a == b) w := by
  obtain ⟨i, hi, hc⟩ := code_same
  unfold Op.equalIn
  simp [Op.equalIn, run_underlying Try.underlying34, run_underlying Try.underlying57, typeInfo, hi, hc]
theorem code_equal (a b : Int) (w : World) : (Op.equal 34 (.iface 57 (.int .i64 a)) (.iface 57 (.int .i64 b))).run Try.prog w = .ok (a == b) w := code_deep 9998 a b w
theorem code_eql (a b : Int) (w : World) : (binOp .eql 34 (.iface 57 (.int .i64 a)) (.iface 57 (.int .i64 b))).run Try.prog w = .ok (.bool (a == b)) w := by
  simp [binOp, code_equal]
theorem code_neq (a b : Int) (w : World) : (binOp .neq 34 (.iface 57 (.int .i64 a)) (.iface 57 (.int .i64 b))).run Try.prog w = .ok (.bool (!(a == b))) w := by
  simp [binOp, code_equal]
set_option maxRecDepth 100000 in
set_option maxHeartbeats 1000000 in
theorem code_nil (w : World) : Calls Try.prog 9 #[.nilIface] w fun e w' => e = .returned (.int .i64 0) ∧ w = w' := by
  go_enter Try.func9, Try.ntmps9
  go_wp2
  go_ret
  exact ⟨rfl, rfl⟩
set_option maxRecDepth 100000 in
set_option maxHeartbeats 1000000 in
theorem code_some (c : Int) (h1 : 1 ≤ c) (h2 : c ≤ 15) (w : World) : Calls Try.prog 9 #[.iface 57 (.int .i64 c)] w fun e w' => e = .returned (.int .i64 c) ∧ w = w' := by
  have ke := code_eql
  go_enter Try.func9, Try.ntmps9
  go_wp2
  go_loop [3] (fun i => ∃ k : Int, 1 ≤ k ∧ k ≤ c ∧ i = .int .i64 k) (fun i => (16 - intOf i).toNat)
  case atStart => exact ⟨1, by omega, h1, rfl⟩
  case round =>
    obtain ⟨k, hk1, hk2, rfl⟩ := hrel
    have hk3 : k ≤ 15 := by omega
    by_cases hck : c = k
    · have hb : (c == k) = true := by simpa using hck
      have HCK := Lib.hid hck
      clear hck
      go_wp2
      go_ret
      exact ⟨by rw [HCK.out]; rfl, rfl⟩
    · have hb : (c == k) = false := by simpa using hck
      clear hck
      go_wp2
      go_round
      case rel =>
        have : ¬ c = k := by simpa using hb
        exact ⟨k + 1, by omega, by omega, rfl⟩
      case measure => simp [intOf]; omega
theorem code_any (c : Int) (h1 : 0 ≤ c) (h2 : c ≤ 15) (w : World) : Calls Try.prog 9 #[errV c] w fun e w' => e = .returned (.int .i64 c) ∧ w = w' := by
  unfold errV
  by_cases h : c = 0
  · rw [if_pos h, h]; exact code_nil w
  · rw [if_neg h]; exact code_some c (by omega) h2 w
end Go.Proofs.Ytbdbbnpkekcefaa.Err

/- The parts that a tag asks for: the walk of command.partsOf. -/
import Derived.Test.YtbdbbnpkekcefaaCmdPutOps
namespace Go.Proofs.Ytbdbbnpkekcefaa.Cmd
open Go.Proofs.Ytbdbbnpkekcefaa.Mem Go.Proofs.Ytbdbbnpkekcefaa.Pack
open Go.ChangeShapes Go.WideShapes Go.ChangeAt Go.RowKit
set_option linter.unusedVariables false
set_option linter.unusedSimpArgs false

theorem parts_1 (w : World) : Calls Try.prog 43 #[.int .i64 1] w fun e w' => e = .returned (.int .i64 7) ∧ w = w' := by
  go_enter Try.func43, Try.ntmps43
  go_wp2
  go_ret
  exact ⟨rfl, rfl⟩
theorem parts_3 (w : World) : Calls Try.prog 43 #[.int .i64 3] w fun e w' => e = .returned (.int .i64 7) ∧ w = w' := by
  go_enter Try.func43, Try.ntmps43
  go_wp2
  go_ret
  exact ⟨rfl, rfl⟩
theorem parts_2 (w : World) : Calls Try.prog 43 #[.int .i64 2] w fun e w' => e = .returned (.int .i64 3) ∧ w = w' := by
  go_enter Try.func43, Try.ntmps43
  go_wp2
  go_ret
  exact ⟨rfl, rfl⟩
theorem parts_4 (w : World) : Calls Try.prog 43 #[.int .i64 4] w fun e w' => e = .returned (.int .i64 1) ∧ w = w' := by
  go_enter Try.func43, Try.ntmps43
  go_wp2
  go_ret
  exact ⟨rfl, rfl⟩
theorem parts_5 (w : World) : Calls Try.prog 43 #[.int .i64 5] w fun e w' => e = .returned (.int .i64 1) ∧ w = w' := by
  go_enter Try.func43, Try.ntmps43
  go_wp2
  go_ret
  exact ⟨rfl, rfl⟩
theorem parts_6 (w : World) : Calls Try.prog 43 #[.int .i64 6] w fun e w' => e = .returned (.int .i64 24) ∧ w = w' := by
  go_enter Try.func43, Try.ntmps43
  go_wp2
  go_ret
  exact ⟨rfl, rfl⟩
theorem parts_7 (w : World) : Calls Try.prog 43 #[.int .i64 7] w fun e w' => e = .returned (.int .i64 24) ∧ w = w' := by
  go_enter Try.func43, Try.ntmps43
  go_wp2
  go_ret
  exact ⟨rfl, rfl⟩
theorem parts_8 (w : World) : Calls Try.prog 43 #[.int .i64 8] w fun e w' => e = .returned (.int .i64 24) ∧ w = w' := by
  go_enter Try.func43, Try.ntmps43
  go_wp2
  go_ret
  exact ⟨rfl, rfl⟩
theorem parts_9 (w : World) : Calls Try.prog 43 #[.int .i64 9] w fun e w' => e = .returned (.int .i64 24) ∧ w = w' := by
  go_enter Try.func43, Try.ntmps43
  go_wp2
  go_ret
  exact ⟨rfl, rfl⟩
theorem parts_10 (w : World) : Calls Try.prog 43 #[.int .i64 10] w fun e w' => e = .returned (.int .i64 40) ∧ w = w' := by
  go_enter Try.func43, Try.ntmps43
  go_wp2
  go_ret
  exact ⟨rfl, rfl⟩
theorem parts_11 (w : World) : Calls Try.prog 43 #[.int .i64 11] w fun e w' => e = .returned (.int .i64 8) ∧ w = w' := by
  go_enter Try.func43, Try.ntmps43
  go_wp2
  go_ret
  exact ⟨rfl, rfl⟩
theorem parts_12 (w : World) : Calls Try.prog 43 #[.int .i64 12] w fun e w' => e = .returned (.int .i64 72) ∧ w = w' := by
  go_enter Try.func43, Try.ntmps43
  go_wp2
  go_ret
  exact ⟨rfl, rfl⟩
theorem parts_13 (w : World) : Calls Try.prog 43 #[.int .i64 13] w fun e w' => e = .returned (.int .i64 136) ∧ w = w' := by
  go_enter Try.func43, Try.ntmps43
  go_wp2
  go_ret
  exact ⟨rfl, rfl⟩
set_option maxHeartbeats 1000000 in
theorem parts_0 (t : Int) (h : t < 1 ∨ 13 < t) (w : World) : Calls Try.prog 43 #[.int .i64 t] w fun e w' => e = .returned (.int .i64 0) ∧ w = w' := by
  have d1 : (t == 1) = false := beq_eq_false_iff_ne.2 (by omega)
  have d2 : (t == 2) = false := beq_eq_false_iff_ne.2 (by omega)
  have d3 : (t == 3) = false := beq_eq_false_iff_ne.2 (by omega)
  have d4 : (t == 4) = false := beq_eq_false_iff_ne.2 (by omega)
  have d5 : (t == 5) = false := beq_eq_false_iff_ne.2 (by omega)
  have d6 : (t == 6) = false := beq_eq_false_iff_ne.2 (by omega)
  have d7 : (t == 7) = false := beq_eq_false_iff_ne.2 (by omega)
  have d8 : (t == 8) = false := beq_eq_false_iff_ne.2 (by omega)
  have d9 : (t == 9) = false := beq_eq_false_iff_ne.2 (by omega)
  have d10 : (t == 10) = false := beq_eq_false_iff_ne.2 (by omega)
  have d11 : (t == 11) = false := beq_eq_false_iff_ne.2 (by omega)
  have d12 : (t == 12) = false := beq_eq_false_iff_ne.2 (by omega)
  have d13 : (t == 13) = false := beq_eq_false_iff_ne.2 (by omega)
  clear h
  go_enter Try.func43, Try.ntmps43
  go_wp2
  go_ret
  exact ⟨rfl, rfl⟩
theorem parts_c1 {tag : Int} (h : tag = 1 ∨ tag = 3) (w : World) : Calls Try.prog 43 #[.int .i64 tag] w fun e w' => e = .returned (.int .i64 7) ∧ w = w' := by
  have hh : tag = 1 ∨ tag = 3 := by omega
  clear h
  rcases hh with rfl | rfl
  · exact parts_1 w
  · exact parts_3 w
theorem parts_c2 {tag : Int} (h : tag = 2) (w : World) : Calls Try.prog 43 #[.int .i64 tag] w fun e w' => e = .returned (.int .i64 3) ∧ w = w' := by
  have hh : tag = 2 := by omega
  clear h
  rcases hh with rfl
  · exact parts_2 w
theorem parts_c4 {tag : Int} (h : tag = 4 ∨ tag = 5) (w : World) : Calls Try.prog 43 #[.int .i64 tag] w fun e w' => e = .returned (.int .i64 1) ∧ w = w' := by
  have hh : tag = 4 ∨ tag = 5 := by omega
  clear h
  rcases hh with rfl | rfl
  · exact parts_4 w
  · exact parts_5 w
theorem parts_c6 {tag : Int} (h : 6 ≤ tag ∧ tag ≤ 9) (w : World) : Calls Try.prog 43 #[.int .i64 tag] w fun e w' => e = .returned (.int .i64 24) ∧ w = w' := by
  have hh : tag = 6 ∨ tag = 7 ∨ tag = 8 ∨ tag = 9 := by omega
  clear h
  rcases hh with rfl | rfl | rfl | rfl
  · exact parts_6 w
  · exact parts_7 w
  · exact parts_8 w
  · exact parts_9 w
theorem parts_c10 {tag : Int} (h : tag = 10) (w : World) : Calls Try.prog 43 #[.int .i64 tag] w fun e w' => e = .returned (.int .i64 40) ∧ w = w' := by
  have hh : tag = 10 := by omega
  clear h
  rcases hh with rfl
  · exact parts_10 w
theorem parts_c11 {tag : Int} (h : tag = 11) (w : World) : Calls Try.prog 43 #[.int .i64 tag] w fun e w' => e = .returned (.int .i64 8) ∧ w = w' := by
  have hh : tag = 11 := by omega
  clear h
  rcases hh with rfl
  · exact parts_11 w
theorem parts_c12 {tag : Int} (h : tag = 12) (w : World) : Calls Try.prog 43 #[.int .i64 tag] w fun e w' => e = .returned (.int .i64 72) ∧ w = w' := by
  have hh : tag = 12 := by omega
  clear h
  rcases hh with rfl
  · exact parts_12 w
theorem parts_c13 {tag : Int} (h : tag = 13) (w : World) : Calls Try.prog 43 #[.int .i64 tag] w fun e w' => e = .returned (.int .i64 136) ∧ w = w' := by
  have hh : tag = 13 := by omega
  clear h
  rcases hh with rfl
  · exact parts_13 w
end Go.Proofs.Ytbdbbnpkekcefaa.Cmd

/- Whether a record may be as the document says: the walks of the reference's May. -/
import Derived.Test.YtgjofinbdigmcaaRecA
import Derived.Test.YtgjofinbdigmcaaRecNam
namespace Go.Proofs.Ytgjofinbdigmcaa.Rec
open Go.Proofs.Ytgjofinbdigmcaa.Mem Go.Proofs.Ytgjofinbdigmcaa.Pack
open Go.ChangeShapes Go.WideShapes Go.ChangeAt Go.RowKit
set_option linter.unusedVariables false
set_option linter.unusedSimpArgs false

theorem in_yes (n : Int) (h : inQ n) (w : World) : Calls Try.prog 15 #[.int .i64 n] w fun e w' => e = .returned (.bool true) ∧ w = w' := by
  obtain ⟨h1, h2⟩ := h
  have d2 : decide (n ≤ 1099511627776) = true := decide_eq_true h2
  go_enter Try.func15, Try.ntmps15
  go_wp2
  go_ret
  exact ⟨rfl, rfl⟩
theorem in_no (n : Int) (h : ¬ inQ n) (w : World) : Calls Try.prog 15 #[.int .i64 n] w fun e w' => e = .returned (.bool false) ∧ w = w' := by
  by_cases h1 : 0 ≤ n
  · have h2 : ¬ n ≤ 1099511627776 := fun e => h ⟨h1, e⟩
    have d2 : decide (n ≤ 1099511627776) = false := decide_eq_false h2
    clear h
    go_enter Try.func15, Try.ntmps15
    go_wp2
    go_ret
    exact ⟨rfl, rfl⟩
  · have d1 : decide (0 ≤ n) = false := decide_eq_false h1
    clear h
    go_enter Try.func15, Try.ntmps15
    go_wp2
    go_ret
    exact ⟨rfl, rfl⟩
theorem in_any (n : Int) (w : World) : Calls Try.prog 15 #[.int .i64 n] w fun e w' => e = .returned (.bool (decide (inQ n))) ∧ w = w' := by
  by_cases h : inQ n
  · rw [decide_eq_true h]; exact in_yes n h w
  · rw [decide_eq_false h]; exact in_no n h w
set_option maxRecDepth 100000 in
set_option maxHeartbeats 1000000 in
theorem refQuota_any (q1 q2 q3 : Int) (w : World) : Calls Try.prog 5 #[.agg #[.int .i64 q1, .int .i64 q2, .int .i64 q3]] w fun e w' => e = .returned (.bool (decide (inQ q1 ∧ inQ q2 ∧ inQ q3))) ∧ w' = w.alloc (.cells #[.int .i64 q1, .int .i64 q2, .int .i64 q3] 23) := by
  have k1 := fun w => in_any q1 w
  have k2 := fun w => in_any q2 w
  have k3 := fun w => in_any q3 w
  have e : decide (inQ q1 ∧ inQ q2 ∧ inQ q3) = (decide (inQ q1) && (decide (inQ q2) && decide (inQ q3))) := by simp
  rw [e]
  clear e
  generalize decide (inQ q1) = b1 at *
  generalize decide (inQ q2) = b2 at *
  generalize decide (inQ q3) = b3 at *
  cases b1 <;> cases b2 <;> cases b3 <;>
    (go_enter Try.func5, Try.ntmps5
     go_wp2_with fail
     refine (k1 _).mono ?_
     rintro e w1 ⟨rfl, rfl⟩
     go_wp2_with fail
     refine (k2 _).mono ?_
     rintro e w1 ⟨rfl, rfl⟩
     go_wp2_with fail
     refine (k3 _).mono ?_
     rintro e w1 ⟨rfl, rfl⟩
     go_wp2_with fail
     go_ret
     exact ⟨rfl, rfl⟩)
theorem below2 (w : World) (A B : Obj) : Below w.heap.size w ((w.alloc A).alloc B) := ((Below.refl _ w).alloc (Nat.le_refl _) A).alloc (by simp) B
end Go.Proofs.Ytgjofinbdigmcaa.Rec

/- Whether a key and a quota may be: the walks of record.mayBeKey and record.mayBeQuota. -/
import Derived.Test.YtgfhcbdhggnbaaaRecHeap
namespace Go.Proofs.Ytgfhcbdhggnbaaa.Rec
open Go.Proofs.Ytgfhcbdhggnbaaa.Mem Go.Proofs.Ytgfhcbdhggnbaaa.Pack
open Go.ChangeShapes Go.WideShapes Go.ChangeAt Go.RowKit
set_option linter.unusedVariables false
set_option linter.unusedSimpArgs false

set_option maxRecDepth 100000 in
set_option maxHeartbeats 1000000 in
theorem key_yes (s : ByteArray) (h : keyMay s) (w : World) : Calls Try.prog 49 #[.string s] w fun e w' => e = .returned (.bool true) ∧ w = w' := by
  obtain ⟨h1, h2⟩ := h
  have d2 : decide ((s.size : Int) ≤ 64) = true := decide_eq_true (by omega)
  go_enter Try.func49, Try.ntmps49
  go_wp2
  go_ret
  exact ⟨rfl, rfl⟩
set_option maxRecDepth 100000 in
set_option maxHeartbeats 1000000 in
theorem key_no (s : ByteArray) (h : ¬ keyMay s) (w : World) : Calls Try.prog 49 #[.string s] w fun e w' => e = .returned (.bool false) ∧ w = w' := by
  by_cases h1 : 1 ≤ s.size
  · have h2 : ¬ ((s.size : Int) ≤ 64) := by intro e; exact h ⟨h1, by omega⟩
    have d2 : decide ((s.size : Int) ≤ 64) = false := decide_eq_false h2
    have d1 : decide (1 ≤ (s.size : Int)) = true := decide_eq_true (by omega)
    clear h
    go_enter Try.func49, Try.ntmps49
    go_wp2
    go_ret
    exact ⟨rfl, rfl⟩
  · have d1 : decide (1 ≤ (s.size : Int)) = false := decide_eq_false (by omega)
    clear h
    go_enter Try.func49, Try.ntmps49
    go_wp2
    go_ret
    exact ⟨rfl, rfl⟩
set_option maxRecDepth 100000 in
set_option maxHeartbeats 1000000 in
theorem quota_yes (q1 q2 q3 : Int) (h : inQ q1 ∧ inQ q2 ∧ inQ q3) (w : World) : Calls Try.prog 48 #[.agg #[.int .i64 q1, .int .i64 q2, .int .i64 q3]] w fun e w' => e = .returned (.bool true) ∧ Below w.heap.size w w' := by
  obtain ⟨⟨a1, b1⟩, ⟨a2, b2⟩, ⟨a3, b3⟩⟩ := h
  have i0 : ∀ w : World, (Instr.index 93 (.agg #[.int .i64 q1, .int .i64 q2, .int .i64 q3]) (.int .i64 0)).run Try.prog w = .ok (.int .i64 q1) w := fun _ => by kernel_rfl
  have i1 : ∀ w : World, (Instr.index 93 (.agg #[.int .i64 q1, .int .i64 q2, .int .i64 q3]) (.int .i64 1)).run Try.prog w = .ok (.int .i64 q2) w := fun _ => by kernel_rfl
  have i2 : ∀ w : World, (Instr.index 93 (.agg #[.int .i64 q1, .int .i64 q2, .int .i64 q3]) (.int .i64 2)).run Try.prog w = .ok (.int .i64 q3) w := fun _ => by kernel_rfl
  go_enter Try.func48, Try.ntmps48
  go_wp2
  refine wp_loop_rounds 4 ?_
  rw [rounds_succ]
  go_wp2_with fail
  rw [rounds_succ]
  go_wp2_with fail
  rw [rounds_succ]
  go_wp2_with fail
  rw [rounds_succ]
  go_wp2_with fail
  go_ret
  exact ⟨rfl, (Below.refl _ w).alloc (Nat.le_refl _) _⟩
set_option maxRecDepth 100000 in
set_option maxHeartbeats 1000000 in
theorem quota_low1 (q1 q2 q3 : Int) (h : q1 < 0) (w : World) : Calls Try.prog 48 #[.agg #[.int .i64 q1, .int .i64 q2, .int .i64 q3]] w fun e w' => e = .returned (.bool false) ∧ Below w.heap.size w w' := by
  have i0 : ∀ w : World, (Instr.index 93 (.agg #[.int .i64 q1, .int .i64 q2, .int .i64 q3]) (.int .i64 0)).run Try.prog w = .ok (.int .i64 q1) w := fun _ => by kernel_rfl
  have i1 : ∀ w : World, (Instr.index 93 (.agg #[.int .i64 q1, .int .i64 q2, .int .i64 q3]) (.int .i64 1)).run Try.prog w = .ok (.int .i64 q2) w := fun _ => by kernel_rfl
  have i2 : ∀ w : World, (Instr.index 93 (.agg #[.int .i64 q1, .int .i64 q2, .int .i64 q3]) (.int .i64 2)).run Try.prog w = .ok (.int .i64 q3) w := fun _ => by kernel_rfl
  go_enter Try.func48, Try.ntmps48
  go_wp2
  refine wp_loop_rounds 4 ?_
  rw [rounds_succ]
  go_wp2_with fail
  go_ret
  exact ⟨rfl, (Below.refl _ w).alloc (Nat.le_refl _) _⟩
set_option maxRecDepth 100000 in
set_option maxHeartbeats 1000000 in
theorem quota_high1 (q1 q2 q3 : Int) (h : 1099511627776 < q1) (w : World) : Calls Try.prog 48 #[.agg #[.int .i64 q1, .int .i64 q2, .int .i64 q3]] w fun e w' => e = .returned (.bool false) ∧ Below w.heap.size w w' := by
  have a1 : 0 ≤ q1 := by omega
  have i0 : ∀ w : World, (Instr.index 93 (.agg #[.int .i64 q1, .int .i64 q2, .int .i64 q3]) (.int .i64 0)).run Try.prog w = .ok (.int .i64 q1) w := fun _ => by kernel_rfl
  have i1 : ∀ w : World, (Instr.index 93 (.agg #[.int .i64 q1, .int .i64 q2, .int .i64 q3]) (.int .i64 1)).run Try.prog w = .ok (.int .i64 q2) w := fun _ => by kernel_rfl
  have i2 : ∀ w : World, (Instr.index 93 (.agg #[.int .i64 q1, .int .i64 q2, .int .i64 q3]) (.int .i64 2)).run Try.prog w = .ok (.int .i64 q3) w := fun _ => by kernel_rfl
  go_enter Try.func48, Try.ntmps48
  go_wp2
  refine wp_loop_rounds 4 ?_
  rw [rounds_succ]
  go_wp2_with fail
  go_ret
  exact ⟨rfl, (Below.refl _ w).alloc (Nat.le_refl _) _⟩
set_option maxRecDepth 100000 in
set_option maxHeartbeats 1000000 in
theorem quota_low2 (q1 q2 q3 : Int) (h1 : inQ q1) (h : q2 < 0) (w : World) : Calls Try.prog 48 #[.agg #[.int .i64 q1, .int .i64 q2, .int .i64 q3]] w fun e w' => e = .returned (.bool false) ∧ Below w.heap.size w w' := by
  obtain ⟨a1, b1⟩ := h1
  have i0 : ∀ w : World, (Instr.index 93 (.agg #[.int .i64 q1, .int .i64 q2, .int .i64 q3]) (.int .i64 0)).run Try.prog w = .ok (.int .i64 q1) w := fun _ => by kernel_rfl
  have i1 : ∀ w : World, (Instr.index 93 (.agg #[.int .i64 q1, .int .i64 q2, .int .i64 q3]) (.int .i64 1)).run Try.prog w = .ok (.int .i64 q2) w := fun _ => by kernel_rfl
  have i2 : ∀ w : World, (Instr.index 93 (.agg #[.int .i64 q1, .int .i64 q2, .int .i64 q3]) (.int .i64 2)).run Try.prog w = .ok (.int .i64 q3) w := fun _ => by kernel_rfl
  go_enter Try.func48, Try.ntmps48
  go_wp2
  refine wp_loop_rounds 4 ?_
  rw [rounds_succ]
  go_wp2_with fail
  rw [rounds_succ]
  go_wp2_with fail
  go_ret
  exact ⟨rfl, (Below.refl _ w).alloc (Nat.le_refl _) _⟩
set_option maxRecDepth 100000 in
set_option maxHeartbeats 1000000 in
theorem quota_high2 (q1 q2 q3 : Int) (h1 : inQ q1) (h : 1099511627776 < q2) (w : World) : Calls Try.prog 48 #[.agg #[.int .i64 q1, .int .i64 q2, .int .i64 q3]] w fun e w' => e = .returned (.bool false) ∧ Below w.heap.size w w' := by
  obtain ⟨a1, b1⟩ := h1
  have a2 : 0 ≤ q2 := by omega
  have i0 : ∀ w : World, (Instr.index 93 (.agg #[.int .i64 q1, .int .i64 q2, .int .i64 q3]) (.int .i64 0)).run Try.prog w = .ok (.int .i64 q1) w := fun _ => by kernel_rfl
  have i1 : ∀ w : World, (Instr.index 93 (.agg #[.int .i64 q1, .int .i64 q2, .int .i64 q3]) (.int .i64 1)).run Try.prog w = .ok (.int .i64 q2) w := fun _ => by kernel_rfl
  have i2 : ∀ w : World, (Instr.index 93 (.agg #[.int .i64 q1, .int .i64 q2, .int .i64 q3]) (.int .i64 2)).run Try.prog w = .ok (.int .i64 q3) w := fun _ => by kernel_rfl
  go_enter Try.func48, Try.ntmps48
  go_wp2
  refine wp_loop_rounds 4 ?_
  rw [rounds_succ]
  go_wp2_with fail
  rw [rounds_succ]
  go_wp2_with fail
  go_ret
  exact ⟨rfl, (Below.refl _ w).alloc (Nat.le_refl _) _⟩
set_option maxRecDepth 100000 in
set_option maxHeartbeats 1000000 in
theorem quota_low3 (q1 q2 q3 : Int) (h1 : inQ q1) (h2 : inQ q2) (h : q3 < 0) (w : World) : Calls Try.prog 48 #[.agg #[.int .i64 q1, .int .i64 q2, .int .i64 q3]] w fun e w' => e = .returned (.bool false) ∧ Below w.heap.size w w' := by
  obtain ⟨a1, b1⟩ := h1
  obtain ⟨a2, b2⟩ := h2
  have i0 : ∀ w : World, (Instr.index 93 (.agg #[.int .i64 q1, .int .i64 q2, .int .i64 q3]) (.int .i64 0)).run Try.prog w = .ok (.int .i64 q1) w := fun _ => by kernel_rfl
  have i1 : ∀ w : World, (Instr.index 93 (.agg #[.int .i64 q1, .int .i64 q2, .int .i64 q3]) (.int .i64 1)).run Try.prog w = .ok (.int .i64 q2) w := fun _ => by kernel_rfl
  have i2 : ∀ w : World, (Instr.index 93 (.agg #[.int .i64 q1, .int .i64 q2, .int .i64 q3]) (.int .i64 2)).run Try.prog w = .ok (.int .i64 q3) w := fun _ => by kernel_rfl
  go_enter Try.func48, Try.ntmps48
  go_wp2
  refine wp_loop_rounds 4 ?_
  rw [rounds_succ]
  go_wp2_with fail
  rw [rounds_succ]
  go_wp2_with fail
  rw [rounds_succ]
  go_wp2_with fail
  go_ret
  exact ⟨rfl, (Below.refl _ w).alloc (Nat.le_refl _) _⟩
set_option maxRecDepth 100000 in
set_option maxHeartbeats 1000000 in
theorem quota_high3 (q1 q2 q3 : Int) (h1 : inQ q1) (h2 : inQ q2) (h : 1099511627776 < q3) (w : World) : Calls Try.prog 48 #[.agg #[.int .i64 q1, .int .i64 q2, .int .i64 q3]] w fun e w' => e = .returned (.bool false) ∧ Below w.heap.size w w' := by
  obtain ⟨a1, b1⟩ := h1
  obtain ⟨a2, b2⟩ := h2
  have a3 : 0 ≤ q3 := by omega
  have i0 : ∀ w : World, (Instr.index 93 (.agg #[.int .i64 q1, .int .i64 q2, .int .i64 q3]) (.int .i64 0)).run Try.prog w = .ok (.int .i64 q1) w := fun _ => by kernel_rfl
  have i1 : ∀ w : World, (Instr.index 93 (.agg #[.int .i64 q1, .int .i64 q2, .int .i64 q3]) (.int .i64 1)).run Try.prog w = .ok (.int .i64 q2) w := fun _ => by kernel_rfl
  have i2 : ∀ w : World, (Instr.index 93 (.agg #[.int .i64 q1, .int .i64 q2, .int .i64 q3]) (.int .i64 2)).run Try.prog w = .ok (.int .i64 q3) w := fun _ => by kernel_rfl
  go_enter Try.func48, Try.ntmps48
  go_wp2
  refine wp_loop_rounds 4 ?_
  rw [rounds_succ]
  go_wp2_with fail
  rw [rounds_succ]
  go_wp2_with fail
  rw [rounds_succ]
  go_wp2_with fail
  go_ret
  exact ⟨rfl, (Below.refl _ w).alloc (Nat.le_refl _) _⟩
theorem quota_no (q1 q2 q3 : Int) (h : ¬ (inQ q1 ∧ inQ q2 ∧ inQ q3)) (w : World) : Calls Try.prog 48 #[.agg #[.int .i64 q1, .int .i64 q2, .int .i64 q3]] w fun e w' => e = .returned (.bool false) ∧ Below w.heap.size w w' := by
  by_cases h1 : inQ q1
  · by_cases h2 : inQ q2
    · by_cases h3 : inQ q3
      · exact absurd ⟨h1, h2, h3⟩ h
      · by_cases g : q3 < 0
        · exact quota_low3 q1 q2 q3 h1 h2 g w
        · exact quota_high3 q1 q2 q3 h1 h2 (by unfold inQ at h3; omega) w
    · by_cases g : q2 < 0
      · exact quota_low2 q1 q2 q3 h1 g w
      · exact quota_high2 q1 q2 q3 h1 (by unfold inQ at h2; omega) w
  · by_cases g : q1 < 0
    · exact quota_low1 q1 q2 q3 g w
    · exact quota_high1 q1 q2 q3 (by unfold inQ at h1; omega) w
end Go.Proofs.Ytgfhcbdhggnbaaa.Rec

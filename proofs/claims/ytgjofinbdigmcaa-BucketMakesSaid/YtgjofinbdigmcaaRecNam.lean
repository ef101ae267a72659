/- In one text: What a record is with just the fields that its kind names: the walks of record.named. What a record is with just the fields that its kind names: the walks of record.named. Whether a key and a quota may be: the walks of record.mayBeKey and record.mayBeQuota. -/
import Derived.Test.YtgjofinbdigmcaaRecA
import Derived.Test.YtgjofinbdigmcaaRecNamedA
namespace Go.Proofs.Ytgjofinbdigmcaa.Rec
open Go.Proofs.Ytgjofinbdigmcaa.Mem Go.Proofs.Ytgjofinbdigmcaa.Pack
open Go.ChangeShapes Go.WideShapes Go.ChangeAt Go.RowKit
set_option linter.unusedVariables false

set_option maxRecDepth 100000 in
set_option maxHeartbeats 2000000 in
theorem named_5 (r : Rcd) (hk : r.kind = 5) (w : World) : Calls Try.prog 31 #[rv r] w fun e w' => e = .returned (rv (named r)) ∧ Below w.heap.size w w' := by
  obtain ⟨k, b, g, q1, q2, q3, s1, s2, ri, se, ke, va, ve, ex⟩ := r
  simp only at hk
  subst hk
  have e : named ⟨5, b, g, q1, q2, q3, s1, s2, ri, se, ke, va, ve, ex⟩ = ⟨5, b, g, 0, 0, 0, 0, s2, ri, se, nothing, nothing, 0, 0⟩ := rfl
  rw [e]
  simp only [rv, cells]
  clear e
  go_enter Try.func31, Try.ntmps31
  go_wp2
  go_region
  go_wp2
  exact bodyPost_ret (results_cell_row rfl _ _ (w.heap.size + 1) 33 _ (0, 0) _ rfl (heap3 w _ _ _) Try.underlying33 rfl rec_size) rfl ⟨rfl, (below3 w _ _ _).drew⟩
set_option maxRecDepth 100000 in
set_option maxHeartbeats 2000000 in
theorem named_6 (r : Rcd) (hk : r.kind = 6) (w : World) : Calls Try.prog 31 #[rv r] w fun e w' => e = .returned (rv (named r)) ∧ Below w.heap.size w w' := by
  obtain ⟨k, b, g, q1, q2, q3, s1, s2, ri, se, ke, va, ve, ex⟩ := r
  simp only at hk
  subst hk
  have e : named ⟨6, b, g, q1, q2, q3, s1, s2, ri, se, ke, va, ve, ex⟩ = ⟨6, b, g, 0, 0, 0, 0, s2, 0, 0, nothing, nothing, 0, 0⟩ := rfl
  rw [e]
  simp only [rv, cells]
  clear e
  go_enter Try.func31, Try.ntmps31
  go_wp2
  exact bodyPost_ret (results_cell_row rfl _ _ (w.heap.size + 1) 33 _ (0, 0) _ rfl (heap3 w _ _ _) Try.underlying33 rfl rec_size) rfl ⟨rfl, (below3 w _ _ _)⟩
set_option maxRecDepth 100000 in
set_option maxHeartbeats 2000000 in
theorem named_7 (r : Rcd) (hk : r.kind = 7) (w : World) : Calls Try.prog 31 #[rv r] w fun e w' => e = .returned (rv (named r)) ∧ Below w.heap.size w w' := by
  obtain ⟨k, b, g, q1, q2, q3, s1, s2, ri, se, ke, va, ve, ex⟩ := r
  simp only at hk
  subst hk
  have e : named ⟨7, b, g, q1, q2, q3, s1, s2, ri, se, ke, va, ve, ex⟩ = ⟨7, b, g, 0, 0, 0, 0, 0, 0, 0, nothing, nothing, 0, 0⟩ := rfl
  rw [e]
  simp only [rv, cells]
  clear e
  go_enter Try.func31, Try.ntmps31
  go_wp2
  exact bodyPost_ret (results_cell_row rfl _ _ (w.heap.size + 1) 33 _ (0, 0) _ rfl (heap3 w _ _ _) Try.underlying33 rfl rec_size) rfl ⟨rfl, (below3 w _ _ _)⟩
set_option maxRecDepth 100000 in
set_option maxHeartbeats 2000000 in
theorem named_0 (r : Rcd) (hk : r.kind < 1 ∨ 7 < r.kind) (w : World) : Calls Try.prog 31 #[rv r] w fun e w' => e = .returned (rv (named r)) ∧ Below w.heap.size w w' := by
  obtain ⟨k, b, g, q1, q2, q3, s1, s2, ri, se, ke, va, ve, ex⟩ := r
  simp only at hk
  have e : named ⟨k, b, g, q1, q2, q3, s1, s2, ri, se, ke, va, ve, ex⟩ = zero := by
    unfold named
    simp only
    rw [if_neg (by omega), if_neg (by omega), if_neg (by omega), if_neg (by omega), if_neg (by omega), if_neg (by omega)]
  rw [e]
  simp only [rv, cells, zero]
  have h1 : (k == 1) = false := beq_eq_false_iff_ne.2 (by omega)
  have h2 : (k == 2) = false := beq_eq_false_iff_ne.2 (by omega)
  have h3 : (k == 3) = false := beq_eq_false_iff_ne.2 (by omega)
  have h4 : (k == 4) = false := beq_eq_false_iff_ne.2 (by omega)
  have h5 : (k == 5) = false := beq_eq_false_iff_ne.2 (by omega)
  have h6 : (k == 6) = false := beq_eq_false_iff_ne.2 (by omega)
  have h7 : (k == 7) = false := beq_eq_false_iff_ne.2 (by omega)
  clear e hk
  go_enter Try.func31, Try.ntmps31
  go_wp2
  exact bodyPost_ret (results_cell_row rfl _ _ (w.heap.size + 1) 33 _ (0, 0) _ rfl (heap3 w _ _ _) Try.underlying33 rfl rec_size) rfl ⟨rfl, (below3 w _ _ _)⟩
end Go.Proofs.Ytgjofinbdigmcaa.Rec
namespace Go.Proofs.Ytgjofinbdigmcaa.Rec
open Go.Proofs.Ytgjofinbdigmcaa.Mem Go.Proofs.Ytgjofinbdigmcaa.Pack
open Go.ChangeShapes Go.WideShapes Go.ChangeAt Go.RowKit
set_option linter.unusedVariables false

theorem named_any (r : Rcd) (w : World) : Calls Try.prog 31 #[rv r] w fun e w' => e = .returned (rv (named r)) ∧ Below w.heap.size w w' := by
  by_cases h0 : r.kind < 1 ∨ 7 < r.kind
  · exact named_0 r h0 w
  have h : r.kind = 1 ∨ r.kind = 2 ∨ r.kind = 3 ∨ r.kind = 4 ∨ r.kind = 5 ∨ r.kind = 6 ∨ r.kind = 7 := by omega
  rcases h with h | h | h | h | h | h | h
  · exact named_1 r h w
  · exact named_2 r h w
  · exact named_3 r h w
  · exact named_4 r h w
  · exact named_5 r h w
  · exact named_6 r h w
  · exact named_7 r h w
end Go.Proofs.Ytgjofinbdigmcaa.Rec
namespace Go.Proofs.Ytgjofinbdigmcaa.Rec
open Go.Proofs.Ytgjofinbdigmcaa.Mem Go.Proofs.Ytgjofinbdigmcaa.Pack
open Go.ChangeShapes Go.WideShapes Go.ChangeAt Go.RowKit
set_option linter.unusedVariables false
set_option linter.unusedSimpArgs false

set_option maxRecDepth 100000 in
set_option maxHeartbeats 1000000 in
theorem key_yes (s : ByteArray) (h : keyMay s) (w : World) : Calls Try.prog 33 #[.string s] w fun e w' => e = .returned (.bool true) ∧ w = w' := by
  obtain ⟨h1, h2⟩ := h
  have d2 : decide ((s.size : Int) ≤ 64) = true := decide_eq_true (by omega)
  go_enter Try.func33, Try.ntmps33
  go_wp2
  go_ret
  exact ⟨rfl, rfl⟩
set_option maxRecDepth 100000 in
set_option maxHeartbeats 1000000 in
theorem key_no (s : ByteArray) (h : ¬ keyMay s) (w : World) : Calls Try.prog 33 #[.string s] w fun e w' => e = .returned (.bool false) ∧ w = w' := by
  by_cases h1 : 1 ≤ s.size
  · have h2 : ¬ ((s.size : Int) ≤ 64) := by intro e; exact h ⟨h1, by omega⟩
    have d2 : decide ((s.size : Int) ≤ 64) = false := decide_eq_false h2
    have d1 : decide (1 ≤ (s.size : Int)) = true := decide_eq_true (by omega)
    clear h
    go_enter Try.func33, Try.ntmps33
    go_wp2
    go_ret
    exact ⟨rfl, rfl⟩
  · have d1 : decide (1 ≤ (s.size : Int)) = false := decide_eq_false (by omega)
    clear h
    go_enter Try.func33, Try.ntmps33
    go_wp2
    go_ret
    exact ⟨rfl, rfl⟩
set_option maxRecDepth 100000 in
set_option maxHeartbeats 1000000 in
theorem quota_yes (q1 q2 q3 : Int) (h : inQ q1 ∧ inQ q2 ∧ inQ q3) (w : World) : Calls Try.prog 32 #[.agg #[.int .i64 q1, .int .i64 q2, .int .i64 q3]] w fun e w' => e = .returned (.bool true) ∧ Below w.heap.size w w' := by
  obtain ⟨⟨a1, b1⟩, ⟨a2, b2⟩, ⟨a3, b3⟩⟩ := h
  have i0 : ∀ w : World, (Instr.index 103 (.agg #[.int .i64 q1, .int .i64 q2, .int .i64 q3]) (.int .i64 0)).run Try.prog w = .ok (.int .i64 q1) w := fun _ => by kernel_rfl
  have i1 : ∀ w : World, (Instr.index 103 (.agg #[.int .i64 q1, .int .i64 q2, .int .i64 q3]) (.int .i64 1)).run Try.prog w = .ok (.int .i64 q2) w := fun _ => by kernel_rfl
  have i2 : ∀ w : World, (Instr.index 103 (.agg #[.int .i64 q1, .int .i64 q2, .int .i64 q3]) (.int .i64 2)).run Try.prog w = .ok (.int .i64 q3) w := fun _ => by kernel_rfl
  go_enter Try.func32, Try.ntmps32
  go_wp2
  refine wp_loop_rounds 4 ?_
  rw [rounds_succ]
  go_wp2_with fail
  rw [rounds_succ]
  go_wp2_with fail
  rw [rounds_succ]
  go_wp2_with fail
  rw [rounds_succ]
  go_wp2_with fail
  go_ret
  exact ⟨rfl, (Below.refl _ w).alloc (Nat.le_refl _) _⟩
set_option maxRecDepth 100000 in
set_option maxHeartbeats 1000000 in
theorem quota_low1 (q1 q2 q3 : Int) (h : q1 < 0) (w : World) : Calls Try.prog 32 #[.agg #[.int .i64 q1, .int .i64 q2, .int .i64 q3]] w fun e w' => e = .returned (.bool false) ∧ Below w.heap.size w w' := by
  have i0 : ∀ w : World, (Instr.index 103 (.agg #[.int .i64 q1, .int .i64 q2, .int .i64 q3]) (.int .i64 0)).run Try.prog w = .ok (.int .i64 q1) w := fun _ => by kernel_rfl
  have i1 : ∀ w : World, (Instr.index 103 (.agg #[.int .i64 q1, .int .i64 q2, .int .i64 q3]) (.int .i64 1)).run Try.prog w = .ok (.int .i64 q2) w := fun _ => by kernel_rfl
  have i2 : ∀ w : World, (Instr.index 103 (.agg #[.int .i64 q1, .int .i64 q2, .int .i64 q3]) (.int .i64 2)).run Try.prog w = .ok (.int .i64 q3) w := fun _ => by kernel_rfl
  go_enter Try.func32, Try.ntmps32
  go_wp2
  refine wp_loop_rounds 4 ?_
  rw [rounds_succ]
  go_wp2_with fail
  go_ret
  exact ⟨rfl, (Below.refl _ w).alloc (Nat.le_refl _) _⟩
set_option maxRecDepth 100000 in
set_option maxHeartbeats 1000000 in
theorem quota_high1 (q1 q2 q3 : Int) (h : 1099511627776 < q1) (w : World) : Calls Try.prog 32 #[.agg #[.int .i64 q1, .int .i64 q2, .int .i64 q3]] w fun e w' => e = .returned (.bool false) ∧ Below w.heap.size w w' := by
  have a1 : 0 ≤ q1 := by omega
  have i0 : ∀ w : World, (Instr.index 103 (.agg #[.int .i64 q1, .int .i64 q2, .int .i64 q3]) (.int .i64 0)).run Try.prog w = .ok (.int .i64 q1) w := fun _ => by kernel_rfl
  have i1 : ∀ w : World, (Instr.index 103 (.agg #[.int .i64 q1, .int .i64 q2, .int .i64 q3]) (.int .i64 1)).run Try.prog w = .ok (.int .i64 q2) w := fun _ => by kernel_rfl
  have i2 : ∀ w : World, (Instr.index 103 (.agg #[.int .i64 q1, .int .i64 q2, .int .i64 q3]) (.int .i64 2)).run Try.prog w = .ok (.int .i64 q3) w := fun _ => by kernel_rfl
  go_enter Try.func32, Try.ntmps32
  go_wp2
  refine wp_loop_rounds 4 ?_
  rw [rounds_succ]
  go_wp2_with fail
  go_ret
  exact ⟨rfl, (Below.refl _ w).alloc (Nat.le_refl _) _⟩
set_option maxRecDepth 100000 in
set_option maxHeartbeats 1000000 in
theorem quota_low2 (q1 q2 q3 : Int) (h1 : inQ q1) (h : q2 < 0) (w : World) : Calls Try.prog 32 #[.agg #[.int .i64 q1, .int .i64 q2, .int .i64 q3]] w fun e w' => e = .returned (.bool false) ∧ Below w.heap.size w w' := by
  obtain ⟨a1, b1⟩ := h1
  have i0 : ∀ w : World, (Instr.index 103 (.agg #[.int .i64 q1, .int .i64 q2, .int .i64 q3]) (.int .i64 0)).run Try.prog w = .ok (.int .i64 q1) w := fun _ => by kernel_rfl
  have i1 : ∀ w : World, (Instr.index 103 (.agg #[.int .i64 q1, .int .i64 q2, .int .i64 q3]) (.int .i64 1)).run Try.prog w = .ok (.int .i64 q2) w := fun _ => by kernel_rfl
  have i2 : ∀ w : World, (Instr.index 103 (.agg #[.int .i64 q1, .int .i64 q2, .int .i64 q3]) (.int .i64 2)).run Try.prog w = .ok (.int .i64 q3) w := fun _ => by kernel_rfl
  go_enter Try.func32, Try.ntmps32
  go_wp2
  refine wp_loop_rounds 4 ?_
  rw [rounds_succ]
  go_wp2_with fail
  rw [rounds_succ]
  go_wp2_with fail
  go_ret
  exact ⟨rfl, (Below.refl _ w).alloc (Nat.le_refl _) _⟩
set_option maxRecDepth 100000 in
set_option maxHeartbeats 1000000 in
theorem quota_high2 (q1 q2 q3 : Int) (h1 : inQ q1) (h : 1099511627776 < q2) (w : World) : Calls Try.prog 32 #[.agg #[.int .i64 q1, .int .i64 q2, .int .i64 q3]] w fun e w' => e = .returned (.bool false) ∧ Below w.heap.size w w' := by
  obtain ⟨a1, b1⟩ := h1
  have a2 : 0 ≤ q2 := by omega
  have i0 : ∀ w : World, (Instr.index 103 (.agg #[.int .i64 q1, .int .i64 q2, .int .i64 q3]) (.int .i64 0)).run Try.prog w = .ok (.int .i64 q1) w := fun _ => by kernel_rfl
  have i1 : ∀ w : World, (Instr.index 103 (.agg #[.int .i64 q1, .int .i64 q2, .int .i64 q3]) (.int .i64 1)).run Try.prog w = .ok (.int .i64 q2) w := fun _ => by kernel_rfl
  have i2 : ∀ w : World, (Instr.index 103 (.agg #[.int .i64 q1, .int .i64 q2, .int .i64 q3]) (.int .i64 2)).run Try.prog w = .ok (.int .i64 q3) w := fun _ => by kernel_rfl
  go_enter Try.func32, Try.ntmps32
  go_wp2
  refine wp_loop_rounds 4 ?_
  rw [rounds_succ]
  go_wp2_with fail
  rw [rounds_succ]
  go_wp2_with fail
  go_ret
  exact ⟨rfl, (Below.refl _ w).alloc (Nat.le_refl _) _⟩
set_option maxRecDepth 100000 in
set_option maxHeartbeats 1000000 in
theorem quota_low3 (q1 q2 q3 : Int) (h1 : inQ q1) (h2 : inQ q2) (h : q3 < 0) (w : World) : Calls Try.prog 32 #[.agg #[.int .i64 q1, .int .i64 q2, .int .i64 q3]] w fun e w' => e = .returned (.bool false) ∧ Below w.heap.size w w' := by
  obtain ⟨a1, b1⟩ := h1
  obtain ⟨a2, b2⟩ := h2
  have i0 : ∀ w : World, (Instr.index 103 (.agg #[.int .i64 q1, .int .i64 q2, .int .i64 q3]) (.int .i64 0)).run Try.prog w = .ok (.int .i64 q1) w := fun _ => by kernel_rfl
  have i1 : ∀ w : World, (Instr.index 103 (.agg #[.int .i64 q1, .int .i64 q2, .int .i64 q3]) (.int .i64 1)).run Try.prog w = .ok (.int .i64 q2) w := fun _ => by kernel_rfl
  have i2 : ∀ w : World, (Instr.index 103 (.agg #[.int .i64 q1, .int .i64 q2, .int .i64 q3]) (.int .i64 2)).run Try.prog w = .ok (.int .i64 q3) w := fun _ => by kernel_rfl
  go_enter Try.func32, Try.ntmps32
  go_wp2
  refine wp_loop_rounds 4 ?_
  rw [rounds_succ]
  go_wp2_with fail
  rw [rounds_succ]
  go_wp2_with fail
  rw [rounds_succ]
  go_wp2_with fail
  go_ret
  exact ⟨rfl, (Below.refl _ w).alloc (Nat.le_refl _) _⟩
set_option maxRecDepth 100000 in
set_option maxHeartbeats 1000000 in
theorem quota_high3 (q1 q2 q3 : Int) (h1 : inQ q1) (h2 : inQ q2) (h : 1099511627776 < q3) (w : World) : Calls Try.prog 32 #[.agg #[.int .i64 q1, .int .i64 q2, .int .i64 q3]] w fun e w' => e = .returned (.bool false) ∧ Below w.heap.size w w' := by
  obtain ⟨a1, b1⟩ := h1
  obtain ⟨a2, b2⟩ := h2
  have a3 : 0 ≤ q3 := by omega
  have i0 : ∀ w : World, (Instr.index 103 (.agg #[.int .i64 q1, .int .i64 q2, .int .i64 q3]) (.int .i64 0)).run Try.prog w = .ok (.int .i64 q1) w := fun _ => by kernel_rfl
  have i1 : ∀ w : World, (Instr.index 103 (.agg #[.int .i64 q1, .int .i64 q2, .int .i64 q3]) (.int .i64 1)).run Try.prog w = .ok (.int .i64 q2) w := fun _ => by kernel_rfl
  have i2 : ∀ w : World, (Instr.index 103 (.agg #[.int .i64 q1, .int .i64 q2, .int .i64 q3]) (.int .i64 2)).run Try.prog w = .ok (.int .i64 q3) w := fun _ => by kernel_rfl
  go_enter Try.func32, Try.ntmps32
  go_wp2
  refine wp_loop_rounds 4 ?_
  rw [rounds_succ]
  go_wp2_with fail
  rw [rounds_succ]
  go_wp2_with fail
  rw [rounds_succ]
  go_wp2_with fail
  go_ret
  exact ⟨rfl, (Below.refl _ w).alloc (Nat.le_refl _) _⟩
theorem quota_no (q1 q2 q3 : Int) (h : ¬ (inQ q1 ∧ inQ q2 ∧ inQ q3)) (w : World) : Calls Try.prog 32 #[.agg #[.int .i64 q1, .int .i64 q2, .int .i64 q3]] w fun e w' => e = .returned (.bool false) ∧ Below w.heap.size w w' := by
  by_cases h1 : inQ q1
  · by_cases h2 : inQ q2
    · by_cases h3 : inQ q3
      · exact absurd ⟨h1, h2, h3⟩ h
      · by_cases g : q3 < 0
        · exact quota_low3 q1 q2 q3 h1 h2 g w
        · exact quota_high3 q1 q2 q3 h1 h2 (by unfold inQ at h3; omega) w
    · by_cases g : q2 < 0
      · exact quota_low2 q1 q2 q3 h1 g w
      · exact quota_high2 q1 q2 q3 h1 (by unfold inQ at h2; omega) w
  · by_cases g : q1 < 0
    · exact quota_low1 q1 q2 q3 g w
    · exact quota_high1 q1 q2 q3 (by unfold inQ at h1; omega) w
end Go.Proofs.Ytgjofinbdigmcaa.Rec

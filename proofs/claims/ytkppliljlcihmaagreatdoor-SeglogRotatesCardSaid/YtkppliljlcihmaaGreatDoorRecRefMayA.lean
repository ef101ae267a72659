/- Whether a record may be as the document says: the walks of the reference's May. -/
import Derived.Test.YtkppliljlcihmaaGreatDoorRecRefQuota
namespace Go.Proofs.YtkppliljlcihmaaGreatDoor.Rec
open Go.Proofs.YtkppliljlcihmaaGreatDoor.Mem Go.Proofs.YtkppliljlcihmaaGreatDoor.Pack
open Go.ChangeShapes Go.WideShapes Go.ChangeAt Go.RowKit
set_option linter.unusedVariables false
set_option linter.unusedSimpArgs false

set_option maxRecDepth 100000 in
set_option maxHeartbeats 2000000 in
theorem ref_low_kind (r : Rcd) (h0 : r.kind < 1) (w : World) : Calls Tryz.prog 62 #[rv r] w fun e w' => e = .returned (.bool false) ∧ Below w.heap.size w w' := by
  obtain ⟨k, b, g, q1, q2, q3, s1, s2, ri, se, ke, va, ve, ex⟩ := r
  simp only [rv, cells]
  simp only at h0
  go_enter Tryz.func62, Tryz.ntmps62
  go_wp2
  go_ret
  exact ⟨rfl, (Below.refl _ w).alloc (Nat.le_refl _) _⟩
set_option maxRecDepth 100000 in
set_option maxHeartbeats 2000000 in
theorem ref_high_kind (r : Rcd) (h0 : 1 ≤ r.kind) (h1 : 7 < r.kind) (w : World) : Calls Tryz.prog 62 #[rv r] w fun e w' => e = .returned (.bool false) ∧ Below w.heap.size w w' := by
  obtain ⟨k, b, g, q1, q2, q3, s1, s2, ri, se, ke, va, ve, ex⟩ := r
  simp only [rv, cells]
  simp only at h0 h1
  go_enter Tryz.func62, Tryz.ntmps62
  go_wp2
  go_ret
  exact ⟨rfl, (Below.refl _ w).alloc (Nat.le_refl _) _⟩
set_option maxRecDepth 100000 in
set_option maxHeartbeats 2000000 in
theorem ref_low (r : Rcd) (h0 : 1 ≤ r.kind) (h1 : r.kind ≤ 7) (h2 : r.bucket < 0) (w : World) : Calls Tryz.prog 62 #[rv r] w fun e w' => e = .returned (.bool false) ∧ Below w.heap.size w w' := by
  obtain ⟨k, b, g, q1, q2, q3, s1, s2, ri, se, ke, va, ve, ex⟩ := r
  simp only [rv, cells]
  simp only at h0 h1 h2
  go_enter Tryz.func62, Tryz.ntmps62
  go_wp2
  go_ret
  exact ⟨rfl, (Below.refl _ w).alloc (Nat.le_refl _) _⟩
set_option maxRecDepth 100000 in
set_option maxHeartbeats 2000000 in
theorem ref_high (r : Rcd) (h0 : 1 ≤ r.kind) (h1 : r.kind ≤ 7) (h2 : 0 ≤ r.bucket) (h3 : 63 < r.bucket) (w : World) : Calls Tryz.prog 62 #[rv r] w fun e w' => e = .returned (.bool false) ∧ Below w.heap.size w w' := by
  obtain ⟨k, b, g, q1, q2, q3, s1, s2, ri, se, ke, va, ve, ex⟩ := r
  simp only [rv, cells]
  simp only at h0 h1 h2 h3
  go_enter Tryz.func62, Tryz.ntmps62
  go_wp2
  go_ret
  exact ⟨rfl, (Below.refl _ w).alloc (Nat.le_refl _) _⟩
set_option maxRecDepth 100000 in
set_option maxHeartbeats 2000000 in
theorem ref_gen (r : Rcd) (h0 : 1 ≤ r.kind) (h1 : r.kind ≤ 7) (h2 : 0 ≤ r.bucket) (h3 : r.bucket ≤ 63) (h4 : r.gen = 0) (w : World) : Calls Tryz.prog 62 #[rv r] w fun e w' => e = .returned (.bool false) ∧ Below w.heap.size w w' := by
  obtain ⟨k, b, g, q1, q2, q3, s1, s2, ri, se, ke, va, ve, ex⟩ := r
  simp only [rv, cells]
  simp only at h0 h1 h2 h3 h4
  subst h4
  go_enter Tryz.func62, Tryz.ntmps62
  go_wp2
  go_ret
  exact ⟨rfl, (Below.refl _ w).alloc (Nat.le_refl _) _⟩
set_option maxRecDepth 100000 in
set_option maxHeartbeats 2000000 in
theorem ref_1t (r : Rcd) (hk : r.kind = 1) (h2 : 0 ≤ r.bucket) (h3 : r.bucket ≤ 63) (h4 : r.gen ≠ 0) (hq : inQ r.keys ∧ inQ r.bytes ∧ inQ r.budget) (w : World) : Calls Tryz.prog 62 #[rv r] w fun e w' => e = .returned (.bool (decide (r = named r))) ∧ Below w.heap.size w w' := by
  have heq := fun w => rec_equal (named r) r w
  have hql := fun w => rec_eql (named r) r w
  have hyy : decide (r = named r) = decide (named r = r) := by rw [Bool.eq_iff_iff, decide_eq_true_iff, decide_eq_true_iff]; exact ⟨Eq.symm, Eq.symm⟩
  rw [hyy]
  clear hyy
  generalize decide (named r = r) = y at *
  obtain ⟨k, b, g, q1, q2, q3, s1, s2, ri, se, ke, va, ve, ex⟩ := r
  simp only at hk h2 h3 h4
  subst hk
  have e : named ⟨1, b, g, q1, q2, q3, s1, s2, ri, se, ke, va, ve, ex⟩ = ⟨1, b, g, q1, q2, q3, s1, s2, 0, 0, nothing, nothing, 0, 0⟩ := rfl
  rw [e] at heq hql
  have z0 : ((0 : Nat) : Int) = 0 := rfl
  simp only [rv, cells, nothing, z0] at heq hql ⊢
  clear e z0
  have h5 : ((g : Int) == 0) = false := beq_eq_false_iff_ne.2 (by omega)
  clear h4
  have HQ := Lib.hid (decide_eq_true hq)
  clear hq
  go_enter Tryz.func62, Tryz.ntmps62
  go_wp2_with fail
  refine (refQuota_any q1 q2 q3 _).mono ?_
  rintro e w1 ⟨rfl, rfl⟩
  rw [HQ.out]
  go_wp2_with fail
  go_ret
  exact ⟨rfl, below3 w _ _ _⟩
end Go.Proofs.YtkppliljlcihmaaGreatDoor.Rec

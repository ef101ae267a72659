/- Whether a record may be: the walks of record.May. -/
import Derived.Test.YtgjofinbdigmcaaRecNam
import Derived.Test.YtgjofinbdigmcaaLate
namespace Go.Proofs.Ytgjofinbdigmcaa.Rec
open Go.Proofs.Ytgjofinbdigmcaa.Mem Go.Proofs.Ytgjofinbdigmcaa.Pack
open Go.ChangeShapes Go.WideShapes Go.ChangeAt Go.RowKit
set_option linter.unusedVariables false
set_option linter.unusedSimpArgs false

set_option maxRecDepth 100000 in
set_option maxHeartbeats 2000000 in
theorem may_neq (r : Rcd) (hr : ¬ r = named r) (w : World) : Calls Try.prog 19 #[rv r] w fun e w' => e = .returned (.bool false) ∧ Below w.heap.size w w' := by
  have hn := fun w => named_any r w
  have hne := fun w => rec_neq r (named r) w
  have heq := fun w => rec_equal r (named r) w
  rw [decide_eq_false hr] at hne heq
  simp only [Bool.not_false] at hne
  obtain ⟨⟨k', b', g', q1', q2', q3', s1', s2', ri', se', ke', va', ve', ex'⟩, hq⟩ : ∃ q, q = named r := ⟨_, rfl⟩
  rw [← hq] at hn hne heq
  clear hq hr
  obtain ⟨k, b, g, q1, q2, q3, s1, s2, ri, se, ke, va, ve, ex⟩ := r
  simp only [rv, cells] at hn hne heq ⊢
  have HN := Lib.hid hn
  clear hn
  have hx : Box (w.alloc (.cells (cells ⟨k, b, g, q1, q2, q3, s1, s2, ri, se, ke, va, ve, ex⟩) 33)) w.heap.size (cells ⟨k, b, g, q1, q2, q3, s1, s2, ri, se, ke, va, ve, ex⟩) := heap_new _ _
  simp only [cells] at hx
  go_enter Try.func19, Try.ntmps19
  go_wp2_with fail
  refine Late.region_goes (fun u => Box u w.heap.size #[.int .i64 k, .int .i64 b, .int .u32 (g : Int), .int .i64 q1, .int .i64 q2, .int .i64 q3, .int .u64 (s1 : Int), .int .u32 (s2 : Int), .int .i64 ri, .int .u64 (se : Int), .string ke, .string va, .int .u64 (ve : Int), .int .u64 (ex : Int)]) (fun _ => false) (by kernel_rfl) ?_ (fun hH => ?_)
  · exact hx
  refine Late.Goes.take (i := 0) (v := ?_) (by simp only [List.getElem?_toArray, List.getElem?_cons_succ, List.getElem?_cons_zero]; rfl) (by kernel_rfl) (by kernel_rfl) (by kernel_rfl) (by kernel_rfl) (by exact fun _ _ _ h => h) (Or.inl ⟨by rfl, ?_⟩) hH ?_
  rotate_left
  · (intro wy hSw; (try dsimp only at hSw); have c0 := Box.cell hSw 0 rfl; have c1 := Box.cell hSw 1 rfl; have c2 := Box.cell hSw 2 rfl; have c3 := Box.cell hSw 3 rfl; have c4 := Box.cell hSw 4 rfl; have c5 := Box.cell hSw 5 rfl; have c6 := Box.cell hSw 6 rfl; have c7 := Box.cell hSw 7 rfl; have c8 := Box.cell hSw 8 rfl; have c9 := Box.cell hSw 9 rfl; have c10 := Box.cell hSw 10 rfl; have c11 := Box.cell hSw 11 rfl; have c12 := Box.cell hSw 12 rfl; have c13 := Box.cell hSw 13 rfl; go_simp; try (with_reducible rfl))
  try simp only [Act.put, List.setIfInBounds_toArray, List.set_cons_zero, List.set_cons_succ]
  refine Late.Goes.take (i := 1) (v := ?_) (by simp only [List.getElem?_toArray, List.getElem?_cons_succ, List.getElem?_cons_zero]; rfl) (by kernel_rfl) (by kernel_rfl) (by kernel_rfl) (by kernel_rfl) (by exact fun _ _ _ h => h) (Or.inl ⟨by rfl, ?_⟩) hH ?_
  rotate_left
  · (intro wy hSw; (try dsimp only at hSw); have c0 := Box.cell hSw 0 rfl; have c1 := Box.cell hSw 1 rfl; have c2 := Box.cell hSw 2 rfl; have c3 := Box.cell hSw 3 rfl; have c4 := Box.cell hSw 4 rfl; have c5 := Box.cell hSw 5 rfl; have c6 := Box.cell hSw 6 rfl; have c7 := Box.cell hSw 7 rfl; have c8 := Box.cell hSw 8 rfl; have c9 := Box.cell hSw 9 rfl; have c10 := Box.cell hSw 10 rfl; have c11 := Box.cell hSw 11 rfl; have c12 := Box.cell hSw 12 rfl; have c13 := Box.cell hSw 13 rfl; go_simp; try (with_reducible rfl))
  try simp only [Act.put, List.setIfInBounds_toArray, List.set_cons_zero, List.set_cons_succ]
  refine Late.Goes.one (i := 2) (by kernel_rfl) (by simp only [List.getElem?_toArray, List.getElem?_cons_succ, List.getElem?_cons_zero]; rfl) (fun K hK => ?_)
  clear hH
  go_simp
  go_at_call 31
  refine (HN.out _).mono ?_
  rintro e w1 ⟨rfl, hb⟩
  have hx1 : Box w1 w.heap.size #[.int .i64 k, .int .i64 b, .int .u32 (g : Int), .int .i64 q1, .int .i64 q2, .int .i64 q3, .int .u64 (s1 : Int), .int .u32 (s2 : Int), .int .i64 ri, .int .u64 (se : Int), .string ke, .string va, .int .u64 (ve : Int), .int .u64 (ex : Int)] := (hb.block w.heap.size (by simp)).trans (heap_new w _)
  have hb1 : Below w.heap.size w w1 := ((Below.refl _ w).alloc (Nat.le_refl _) _).drew.trans (hb.mono (by simp))
  have HB := Lib.hid hb1
  have c0 : w1.cell? ⟨w.heap.size, 0, none⟩ = some (.int .i64 k) := hx1.cell 0 rfl
  have c1 : w1.cell? ⟨w.heap.size, 1, none⟩ = some (.int .i64 b) := hx1.cell 1 rfl
  have c2 : w1.cell? ⟨w.heap.size, 2, none⟩ = some (.int .u32 (g : Int)) := hx1.cell 2 rfl
  have HX1 := Lib.hid hx1
  clear hb hb1 hx1
  refine hK.out _ _ ?_ (fun hH => ?_)
  · exact fun _ => HX1.out
  clear hK K
  have hH := hH rfl
  try simp only [Act.put, List.setIfInBounds_toArray, List.set_cons_zero, List.set_cons_succ]
  refine Late.Goes.one (i := 3) (by kernel_rfl) (by simp only [List.getElem?_toArray, List.getElem?_cons_succ, List.getElem?_cons_zero]; rfl) (fun K hK => ?_)
  clear hH
  go_simp
  refine hK.out _ _ ?_ (fun hH => ?_)
  · exact fun _ => HX1.out
  clear hK K
  have hH := hH rfl
  try simp only [Act.put, List.setIfInBounds_toArray, List.set_cons_zero, List.set_cons_succ]
  refine Late.Goes.one (i := 4) (by kernel_rfl) (by simp only [List.getElem?_toArray, List.getElem?_cons_succ, List.getElem?_cons_zero]; rfl) (fun K hK => ?_)
  clear hH
  go_simp
  refine hK.out _ _ ?_ (fun hH => ?_)
  · exact fun _ => HX1.out
  clear hK K
  have hH := hH rfl
  try simp only [Act.put, List.setIfInBounds_toArray, List.set_cons_zero, List.set_cons_succ]
  refine Late.Goes.one (i := 5) (by kernel_rfl) (by simp only [List.getElem?_toArray, List.getElem?_cons_succ, List.getElem?_cons_zero]; rfl) (fun K hK => ?_)
  clear hH
  go_simp
  refine hK.out _ _ ?_ (fun hH => ?_)
  · exact fun _ => HX1.out
  clear hK K
  have hH := hH rfl
  try simp only [Act.put, List.setIfInBounds_toArray, List.set_cons_zero, List.set_cons_succ]
  refine Late.Goes.one (i := 6) (by kernel_rfl) (by simp only [List.getElem?_toArray, List.getElem?_cons_succ, List.getElem?_cons_zero]; rfl) (fun K hK => ?_)
  clear hH
  go_simp
  refine hK.out _ _ ?_ (fun hH => ?_)
  · exact fun _ => HX1.out
  clear hK K
  have hH := hH rfl
  try simp only [Act.put, List.setIfInBounds_toArray, List.set_cons_zero, List.set_cons_succ]
  refine Late.Goes.one (i := 7) (by kernel_rfl) (by simp only [List.getElem?_toArray, List.getElem?_cons_succ, List.getElem?_cons_zero]; rfl) (fun K hK => ?_)
  clear hH
  go_simp
  refine hK.out _ _ ?_ (fun hH => ?_)
  · exact fun _ => HX1.out
  clear hK K
  have hH := hH rfl
  try simp only [Act.put, List.setIfInBounds_toArray, List.set_cons_zero, List.set_cons_succ]
  refine Late.Goes.one (i := 8) (by kernel_rfl) (by simp only [List.getElem?_toArray, List.getElem?_cons_succ, List.getElem?_cons_zero]; rfl) (fun K hK => ?_)
  clear hH
  go_simp
  refine hK.out _ _ ?_ (fun hH => ?_)
  · exact fun _ => HX1.out
  clear hK K
  have hH := hH rfl
  try simp only [Act.put, List.setIfInBounds_toArray, List.set_cons_zero, List.set_cons_succ]
  refine Late.Goes.one (i := 9) (by kernel_rfl) (by simp only [List.getElem?_toArray, List.getElem?_cons_succ, List.getElem?_cons_zero]; rfl) (fun K hK => ?_)
  clear hH
  go_simp
  refine hK.out _ _ ?_ (fun hH => ?_)
  · exact fun _ => HX1.out
  clear hK K
  have hH := hH rfl
  try simp only [Act.put, List.setIfInBounds_toArray, List.set_cons_zero, List.set_cons_succ]
  refine Late.Goes.one (i := 10) (by kernel_rfl) (by simp only [List.getElem?_toArray, List.getElem?_cons_succ, List.getElem?_cons_zero]; rfl) (fun K hK => ?_)
  clear hH
  go_simp
  refine hK.out _ _ ?_ (fun hH => ?_)
  · exact fun _ => HX1.out
  clear hK K
  have hH := hH rfl
  try simp only [Act.put, List.setIfInBounds_toArray, List.set_cons_zero, List.set_cons_succ]
  refine Late.Goes.one (i := 11) (by kernel_rfl) (by simp only [List.getElem?_toArray, List.getElem?_cons_succ, List.getElem?_cons_zero]; rfl) (fun K hK => ?_)
  clear hH
  go_simp
  refine hK.out _ _ ?_ (fun hH => ?_)
  · exact fun _ => HX1.out
  clear hK K
  have hH := hH rfl
  try simp only [Act.put, List.setIfInBounds_toArray, List.set_cons_zero, List.set_cons_succ]
  refine Late.Goes.one (i := 12) (by kernel_rfl) (by simp only [List.getElem?_toArray, List.getElem?_cons_succ, List.getElem?_cons_zero]; rfl) (fun K hK => ?_)
  clear hH
  go_simp
  refine hK.out _ _ ?_ (fun hH => ?_)
  · exact fun _ => HX1.out
  clear hK K
  have hH := hH rfl
  try simp only [Act.put, List.setIfInBounds_toArray, List.set_cons_zero, List.set_cons_succ]
  refine Late.Goes.one (i := 13) (by kernel_rfl) (by simp only [List.getElem?_toArray, List.getElem?_cons_succ, List.getElem?_cons_zero]; rfl) (fun K hK => ?_)
  clear hH
  go_simp
  refine hK.out _ _ ?_ (fun hH => ?_)
  · exact fun _ => HX1.out
  clear hK K
  have hH := hH rfl
  try simp only [Act.put, List.setIfInBounds_toArray, List.set_cons_zero, List.set_cons_succ]
  refine Late.Goes.one (i := 14) (by kernel_rfl) (by simp only [List.getElem?_toArray, List.getElem?_cons_succ, List.getElem?_cons_zero]; rfl) (fun K hK => ?_)
  clear hH
  go_simp
  refine hK.out _ _ ?_ (fun hH => ?_)
  · exact fun _ => HX1.out
  clear hK K
  have hH := hH rfl
  try simp only [Act.put, List.setIfInBounds_toArray, List.set_cons_zero, List.set_cons_succ]
  refine Late.Goes.one (i := 15) (by kernel_rfl) (by simp only [List.getElem?_toArray, List.getElem?_cons_succ, List.getElem?_cons_zero]; rfl) (fun K hK => ?_)
  clear hH
  go_simp
  refine hK.out _ _ ?_ (fun hH => ?_)
  · exact fun _ => HX1.out
  clear hK K
  have hH := hH rfl
  try simp only [Act.put, List.setIfInBounds_toArray, List.set_cons_zero, List.set_cons_succ]
  refine Late.Goes.one (i := 16) (by kernel_rfl) (by simp only [List.getElem?_toArray, List.getElem?_cons_succ, List.getElem?_cons_zero]; rfl) (fun K hK => ?_)
  clear hH
  go_simp
  refine hK.out _ _ ?_ (fun hH => ?_)
  · exact fun _ => HX1.out
  clear hK K
  have hH := hH rfl
  try simp only [Act.put, List.setIfInBounds_toArray, List.set_cons_zero, List.set_cons_succ]
  refine Late.Goes.one (i := 17) (by kernel_rfl) (by simp only [List.getElem?_toArray, List.getElem?_cons_succ, List.getElem?_cons_zero]; rfl) (fun K hK => ?_)
  clear hH
  go_simp
  refine hK.out _ _ ?_ (fun hH => ?_)
  · exact fun _ => HX1.out
  clear hK K
  have hH := hH rfl
  try simp only [Act.put, List.setIfInBounds_toArray, List.set_cons_zero, List.set_cons_succ]
  refine Late.Goes.one (i := 18) (by kernel_rfl) (by simp only [List.getElem?_toArray, List.getElem?_cons_succ, List.getElem?_cons_zero]; rfl) (fun K hK => ?_)
  clear hH
  go_simp
  refine hK.out _ _ ?_ (fun hH => ?_)
  · exact fun _ => HX1.out
  clear hK K
  have hH := hH rfl
  try simp only [Act.put, List.setIfInBounds_toArray, List.set_cons_zero, List.set_cons_succ]
  refine Late.Goes.done (by kernel_rfl) ?_ _
  clear hH hx hne heq
  go_wp2
  go_ret
  exact ⟨rfl, HB.out⟩
set_option maxRecDepth 100000 in
set_option maxHeartbeats 2000000 in
theorem may_low (r : Rcd) (hr : r = named r) (h0 : r.bucket < 0) (w : World) : Calls Try.prog 19 #[rv r] w fun e w' => e = .returned (.bool false) ∧ Below w.heap.size w w' := by
  have hn := fun w => named_any r w
  rw [← hr] at hn
  have hne := fun w => rec_neq r r w
  have heq := fun w => rec_equal r r w
  rw [decide_eq_true (rfl : r = r)] at hne heq
  simp only [Bool.not_true] at hne
  clear hr
  obtain ⟨k, b, g, q1, q2, q3, s1, s2, ri, se, ke, va, ve, ex⟩ := r
  simp only [rv, cells] at hn hne heq ⊢
  have e0 : (b < 0) := by simp only at h0; omega
  have d0 : decide (b < 0) = true := decide_eq_true e0
  clear h0
  have HN := Lib.hid hn
  clear hn
  have hx : Box (w.alloc (.cells (cells ⟨k, b, g, q1, q2, q3, s1, s2, ri, se, ke, va, ve, ex⟩) 33)) w.heap.size (cells ⟨k, b, g, q1, q2, q3, s1, s2, ri, se, ke, va, ve, ex⟩) := heap_new _ _
  simp only [cells] at hx
  go_enter Try.func19, Try.ntmps19
  go_wp2_with fail
  refine Late.region_goes (fun u => Box u w.heap.size #[.int .i64 k, .int .i64 b, .int .u32 (g : Int), .int .i64 q1, .int .i64 q2, .int .i64 q3, .int .u64 (s1 : Int), .int .u32 (s2 : Int), .int .i64 ri, .int .u64 (se : Int), .string ke, .string va, .int .u64 (ve : Int), .int .u64 (ex : Int)]) (fun _ => false) (by kernel_rfl) ?_ (fun hH => ?_)
  · exact hx
  refine Late.Goes.take (i := 0) (v := ?_) (by simp only [List.getElem?_toArray, List.getElem?_cons_succ, List.getElem?_cons_zero]; rfl) (by kernel_rfl) (by kernel_rfl) (by kernel_rfl) (by kernel_rfl) (by exact fun _ _ _ h => h) (Or.inl ⟨by rfl, ?_⟩) hH ?_
  rotate_left
  · (intro wy hSw; (try dsimp only at hSw); have c0 := Box.cell hSw 0 rfl; have c1 := Box.cell hSw 1 rfl; have c2 := Box.cell hSw 2 rfl; have c3 := Box.cell hSw 3 rfl; have c4 := Box.cell hSw 4 rfl; have c5 := Box.cell hSw 5 rfl; have c6 := Box.cell hSw 6 rfl; have c7 := Box.cell hSw 7 rfl; have c8 := Box.cell hSw 8 rfl; have c9 := Box.cell hSw 9 rfl; have c10 := Box.cell hSw 10 rfl; have c11 := Box.cell hSw 11 rfl; have c12 := Box.cell hSw 12 rfl; have c13 := Box.cell hSw 13 rfl; go_simp; try (with_reducible rfl))
  try simp only [Act.put, List.setIfInBounds_toArray, List.set_cons_zero, List.set_cons_succ]
  refine Late.Goes.take (i := 1) (v := ?_) (by simp only [List.getElem?_toArray, List.getElem?_cons_succ, List.getElem?_cons_zero]; rfl) (by kernel_rfl) (by kernel_rfl) (by kernel_rfl) (by kernel_rfl) (by exact fun _ _ _ h => h) (Or.inl ⟨by rfl, ?_⟩) hH ?_
  rotate_left
  · (intro wy hSw; (try dsimp only at hSw); have c0 := Box.cell hSw 0 rfl; have c1 := Box.cell hSw 1 rfl; have c2 := Box.cell hSw 2 rfl; have c3 := Box.cell hSw 3 rfl; have c4 := Box.cell hSw 4 rfl; have c5 := Box.cell hSw 5 rfl; have c6 := Box.cell hSw 6 rfl; have c7 := Box.cell hSw 7 rfl; have c8 := Box.cell hSw 8 rfl; have c9 := Box.cell hSw 9 rfl; have c10 := Box.cell hSw 10 rfl; have c11 := Box.cell hSw 11 rfl; have c12 := Box.cell hSw 12 rfl; have c13 := Box.cell hSw 13 rfl; go_simp; try (with_reducible rfl))
  try simp only [Act.put, List.setIfInBounds_toArray, List.set_cons_zero, List.set_cons_succ]
  refine Late.Goes.one (i := 2) (by kernel_rfl) (by simp only [List.getElem?_toArray, List.getElem?_cons_succ, List.getElem?_cons_zero]; rfl) (fun K hK => ?_)
  clear hH
  go_simp
  go_at_call 31
  refine (HN.out _).mono ?_
  rintro e w1 ⟨rfl, hb⟩
  have hx1 : Box w1 w.heap.size #[.int .i64 k, .int .i64 b, .int .u32 (g : Int), .int .i64 q1, .int .i64 q2, .int .i64 q3, .int .u64 (s1 : Int), .int .u32 (s2 : Int), .int .i64 ri, .int .u64 (se : Int), .string ke, .string va, .int .u64 (ve : Int), .int .u64 (ex : Int)] := (hb.block w.heap.size (by simp)).trans (heap_new w _)
  have hb1 : Below w.heap.size w w1 := ((Below.refl _ w).alloc (Nat.le_refl _) _).drew.trans (hb.mono (by simp))
  have HB := Lib.hid hb1
  have c0 : w1.cell? ⟨w.heap.size, 0, none⟩ = some (.int .i64 k) := hx1.cell 0 rfl
  have c1 : w1.cell? ⟨w.heap.size, 1, none⟩ = some (.int .i64 b) := hx1.cell 1 rfl
  have c2 : w1.cell? ⟨w.heap.size, 2, none⟩ = some (.int .u32 (g : Int)) := hx1.cell 2 rfl
  have HX1 := Lib.hid hx1
  clear hb hb1 hx1
  refine hK.out _ _ ?_ (fun hH => ?_)
  · exact fun _ => HX1.out
  clear hK K
  have hH := hH rfl
  try simp only [Act.put, List.setIfInBounds_toArray, List.set_cons_zero, List.set_cons_succ]
  refine Late.Goes.one (i := 3) (by kernel_rfl) (by simp only [List.getElem?_toArray, List.getElem?_cons_succ, List.getElem?_cons_zero]; rfl) (fun K hK => ?_)
  clear hH
  go_simp
  refine hK.out _ _ ?_ (fun hH => ?_)
  · exact fun _ => HX1.out
  clear hK K
  have hH := hH rfl
  try simp only [Act.put, List.setIfInBounds_toArray, List.set_cons_zero, List.set_cons_succ]
  refine Late.Goes.one (i := 4) (by kernel_rfl) (by simp only [List.getElem?_toArray, List.getElem?_cons_succ, List.getElem?_cons_zero]; rfl) (fun K hK => ?_)
  clear hH
  go_simp
  refine hK.out _ _ ?_ (fun hH => ?_)
  · exact fun _ => HX1.out
  clear hK K
  have hH := hH rfl
  try simp only [Act.put, List.setIfInBounds_toArray, List.set_cons_zero, List.set_cons_succ]
  refine Late.Goes.one (i := 5) (by kernel_rfl) (by simp only [List.getElem?_toArray, List.getElem?_cons_succ, List.getElem?_cons_zero]; rfl) (fun K hK => ?_)
  clear hH
  go_simp
  refine hK.out _ _ ?_ (fun hH => ?_)
  · exact fun _ => HX1.out
  clear hK K
  have hH := hH rfl
  try simp only [Act.put, List.setIfInBounds_toArray, List.set_cons_zero, List.set_cons_succ]
  refine Late.Goes.one (i := 6) (by kernel_rfl) (by simp only [List.getElem?_toArray, List.getElem?_cons_succ, List.getElem?_cons_zero]; rfl) (fun K hK => ?_)
  clear hH
  go_simp
  refine hK.out _ _ ?_ (fun hH => ?_)
  · exact fun _ => HX1.out
  clear hK K
  have hH := hH rfl
  try simp only [Act.put, List.setIfInBounds_toArray, List.set_cons_zero, List.set_cons_succ]
  refine Late.Goes.one (i := 7) (by kernel_rfl) (by simp only [List.getElem?_toArray, List.getElem?_cons_succ, List.getElem?_cons_zero]; rfl) (fun K hK => ?_)
  clear hH
  go_simp
  refine hK.out _ _ ?_ (fun hH => ?_)
  · exact fun _ => HX1.out
  clear hK K
  have hH := hH rfl
  try simp only [Act.put, List.setIfInBounds_toArray, List.set_cons_zero, List.set_cons_succ]
  refine Late.Goes.one (i := 8) (by kernel_rfl) (by simp only [List.getElem?_toArray, List.getElem?_cons_succ, List.getElem?_cons_zero]; rfl) (fun K hK => ?_)
  clear hH
  go_simp
  refine hK.out _ _ ?_ (fun hH => ?_)
  · exact fun _ => HX1.out
  clear hK K
  have hH := hH rfl
  try simp only [Act.put, List.setIfInBounds_toArray, List.set_cons_zero, List.set_cons_succ]
  refine Late.Goes.one (i := 9) (by kernel_rfl) (by simp only [List.getElem?_toArray, List.getElem?_cons_succ, List.getElem?_cons_zero]; rfl) (fun K hK => ?_)
  clear hH
  go_simp
  refine hK.out _ _ ?_ (fun hH => ?_)
  · exact fun _ => HX1.out
  clear hK K
  have hH := hH rfl
  try simp only [Act.put, List.setIfInBounds_toArray, List.set_cons_zero, List.set_cons_succ]
  refine Late.Goes.one (i := 10) (by kernel_rfl) (by simp only [List.getElem?_toArray, List.getElem?_cons_succ, List.getElem?_cons_zero]; rfl) (fun K hK => ?_)
  clear hH
  go_simp
  refine hK.out _ _ ?_ (fun hH => ?_)
  · exact fun _ => HX1.out
  clear hK K
  have hH := hH rfl
  try simp only [Act.put, List.setIfInBounds_toArray, List.set_cons_zero, List.set_cons_succ]
  refine Late.Goes.one (i := 11) (by kernel_rfl) (by simp only [List.getElem?_toArray, List.getElem?_cons_succ, List.getElem?_cons_zero]; rfl) (fun K hK => ?_)
  clear hH
  go_simp
  refine hK.out _ _ ?_ (fun hH => ?_)
  · exact fun _ => HX1.out
  clear hK K
  have hH := hH rfl
  try simp only [Act.put, List.setIfInBounds_toArray, List.set_cons_zero, List.set_cons_succ]
  refine Late.Goes.one (i := 12) (by kernel_rfl) (by simp only [List.getElem?_toArray, List.getElem?_cons_succ, List.getElem?_cons_zero]; rfl) (fun K hK => ?_)
  clear hH
  go_simp
  refine hK.out _ _ ?_ (fun hH => ?_)
  · exact fun _ => HX1.out
  clear hK K
  have hH := hH rfl
  try simp only [Act.put, List.setIfInBounds_toArray, List.set_cons_zero, List.set_cons_succ]
  refine Late.Goes.one (i := 13) (by kernel_rfl) (by simp only [List.getElem?_toArray, List.getElem?_cons_succ, List.getElem?_cons_zero]; rfl) (fun K hK => ?_)
  clear hH
  go_simp
  refine hK.out _ _ ?_ (fun hH => ?_)
  · exact fun _ => HX1.out
  clear hK K
  have hH := hH rfl
  try simp only [Act.put, List.setIfInBounds_toArray, List.set_cons_zero, List.set_cons_succ]
  refine Late.Goes.one (i := 14) (by kernel_rfl) (by simp only [List.getElem?_toArray, List.getElem?_cons_succ, List.getElem?_cons_zero]; rfl) (fun K hK => ?_)
  clear hH
  go_simp
  refine hK.out _ _ ?_ (fun hH => ?_)
  · exact fun _ => HX1.out
  clear hK K
  have hH := hH rfl
  try simp only [Act.put, List.setIfInBounds_toArray, List.set_cons_zero, List.set_cons_succ]
  refine Late.Goes.one (i := 15) (by kernel_rfl) (by simp only [List.getElem?_toArray, List.getElem?_cons_succ, List.getElem?_cons_zero]; rfl) (fun K hK => ?_)
  clear hH
  go_simp
  refine hK.out _ _ ?_ (fun hH => ?_)
  · exact fun _ => HX1.out
  clear hK K
  have hH := hH rfl
  try simp only [Act.put, List.setIfInBounds_toArray, List.set_cons_zero, List.set_cons_succ]
  refine Late.Goes.one (i := 16) (by kernel_rfl) (by simp only [List.getElem?_toArray, List.getElem?_cons_succ, List.getElem?_cons_zero]; rfl) (fun K hK => ?_)
  clear hH
  go_simp
  refine hK.out _ _ ?_ (fun hH => ?_)
  · exact fun _ => HX1.out
  clear hK K
  have hH := hH rfl
  try simp only [Act.put, List.setIfInBounds_toArray, List.set_cons_zero, List.set_cons_succ]
  refine Late.Goes.one (i := 17) (by kernel_rfl) (by simp only [List.getElem?_toArray, List.getElem?_cons_succ, List.getElem?_cons_zero]; rfl) (fun K hK => ?_)
  clear hH
  go_simp
  refine hK.out _ _ ?_ (fun hH => ?_)
  · exact fun _ => HX1.out
  clear hK K
  have hH := hH rfl
  try simp only [Act.put, List.setIfInBounds_toArray, List.set_cons_zero, List.set_cons_succ]
  refine Late.Goes.one (i := 18) (by kernel_rfl) (by simp only [List.getElem?_toArray, List.getElem?_cons_succ, List.getElem?_cons_zero]; rfl) (fun K hK => ?_)
  clear hH
  go_simp
  refine hK.out _ _ ?_ (fun hH => ?_)
  · exact fun _ => HX1.out
  clear hK K
  have hH := hH rfl
  try simp only [Act.put, List.setIfInBounds_toArray, List.set_cons_zero, List.set_cons_succ]
  refine Late.Goes.done (by kernel_rfl) ?_ _
  clear hH hx hne heq
  go_wp2
  go_ret
  exact ⟨rfl, HB.out⟩
end Go.Proofs.Ytgjofinbdigmcaa.Rec

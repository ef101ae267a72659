/- FrameTells: the frame of any body, and what any bytes begin with: the walk of the law. -/
import Derived.Test.YtiaaadeenbjciaaFrameUp
import Derived.Deep.RegionHeld3
namespace Go.Proofs.Ytiaaadeenbjciaa.Frame
open Go.Proofs.Ytiaaadeenbjciaa.Mem Go.Proofs.Ytiaaadeenbjciaa.Err
open Go.Proofs.Ytiaaadeenbjciaa.Crc (sumOf)
open Go.ChangeShapes Go.WideShapes Go.ChangeAt Go.RowKit
set_option linter.unusedVariables false
set_option linter.unusedSimpArgs false

set_option maxRecDepth 100000 in
set_option maxHeartbeats 2000000 in
theorem tells_long (a0 a1 : Option Addr) (len0 cap0 len1 cap1 : Nat) (w : World) (hm0 : len0 ≤ 9223372036854775807) (hm1 : len1 ≤ 9223372036854775807) (h : 21000 < len0 ∨ 21000 < len1) :
    Calls Try.prog 4 #[.slice a0 len0 cap0, .slice a1 len1 cap1] w fun e w' => e = .returned (.bool true) ∧ Below w.heap.size w w' := by
  by_cases h0 : 21000 < len0
  · go_enter Try.func4, Try.ntmps4
    go_wp2_with fail
    refine (up_any w).mono ?_
    rintro e w1 ⟨rfl, hb1⟩
    go_wp2_with fail
    go_ret
    exact ⟨rfl, hb1⟩
  · have h1 : 21000 < len1 := by omega
    go_enter Try.func4, Try.ntmps4
    go_wp2_with fail
    refine (up_any w).mono ?_
    rintro e w1 ⟨rfl, hb1⟩
    go_wp2_with fail
    go_ret
    exact ⟨rfl, hb1⟩
set_option maxRecDepth 100000 in
set_option maxHeartbeats 4000000 in
theorem tells_no (a0 a1 : Option Addr) (len0 cap0 cap1 : Nat) (bs : List Int) (w : World) (hy : In w a1 bs.length cap1 bs) (h0 : len0 ≤ 21000) (h1 : bs.length ≤ 21000) (h : len0 < 1 ∨ 20000 < len0) :
    Calls Try.prog 4 #[.slice a0 len0 cap0, .slice a1 bs.length cap1] w fun e w' => e = .returned (.bool true) ∧ Below w.heap.size w w' := by
  have ke := code_neq
  have kq := errV_some (c := 13) (by omega)
  have KQ := Lib.hid kq
  clear kq
  go_enter Try.func4, Try.ntmps4
  go_wp2_with fail
  refine (up_any w).mono ?_
  rintro e w1 ⟨rfl, hb1⟩
  go_wp2_with fail
  have kp := put_no a0 len0 cap0 w1 (by omega) h
  rw [KQ.out] at kp
  refine kp.mono ?_
  rintro e w' ⟨rfl, rfl⟩
  clear kp
  rcases h with h | h
  all_goals
    have hin := hy.below hb1
    go_wp2_with fail
    refine (get_any a1 cap1 bs w1 hin (by omega)).mono ?_
    rintro e w8 ⟨v8, rfl, ho8, hb8⟩
    obtain ⟨a8, c8, rfl, hr8, hl8, hD8⟩ := own_shape ho8 (body_bytes hy.row.2.1)
    clear ho8 hl8 hD8
    have hbx := hb1.trans (hb8.mono hb1.size)
    go_wp2_with fail
    refine (refGet_any a1 cap1 bs w8 (hin.below hb8) (by omega)).mono ?_
    unfold RefGets
    rintro e w9 ⟨a9, c9, rfl, hr9, hb9⟩
    have hs1 := fun dst hd => run_string_row (P := Try.prog) (hr8.below hb9) 30 5 dst Try.underlying30 Try.underlying5 hd c8
    have hs2 := fun dst hd => run_string_row (P := Try.prog) hr9 30 5 dst Try.underlying30 Try.underlying5 hd c9
    have hbz := hbx.trans (hb9.mono hbx.size)
    have hbad := bad_le bs
    clear hr8 hr9 hin
    go_wp2_with fail
    refine (code_any (bad bs) (by omega) (by omega) _).mono ?_
    rintro e w' ⟨rfl, rfl⟩
    go_wp2_with fail
    go_ret
    exact ⟨rfl, hbz⟩
set_option maxRecDepth 100000 in
set_option maxHeartbeats 8000000 in
theorem tells_yes (a0 a1 : Option Addr) (cap0 cap1 : Nat) (zs bs : List Int) (w : World) (hx : In w a0 zs.length cap0 zs) (hy : In w a1 bs.length cap1 bs) (h1 : bs.length ≤ 21000) (h2 : 1 ≤ zs.length) (h3 : zs.length ≤ 20000) :
    Calls Try.prog 4 #[.slice a0 zs.length cap0, .slice a1 bs.length cap1] w fun e w' => e = .returned (.bool true) ∧ Below w.heap.size w w' := by
  have HX := Lib.hid hx.nil
  have t0 : ((zs.length : Int) == 0) = false := beq_eq_false_iff_ne.2 (by omega)
  have t1 : decide (20000 < (zs.length : Int)) = false := by simp; omega
  go_enter Try.func4, Try.ntmps4
  go_wp2_with fail
  refine (up_any w).mono ?_
  rintro e w1 ⟨rfl, hb1⟩
  have hx1 := hx.below hb1
  go_wp2_with fail
  refine (put_yes a0 cap0 zs w1 hx1.row HX.out h2 h3).mono ?_
  rintro e w2 ⟨v2, rfl, ho2, hb2⟩
  obtain ⟨a2, c2, rfl, hr2, hl2, hD2⟩ := own_shape ho2 (frm_bytes hx.row.2.1)
  clear ho2 hl2 hD2
  rw [errV_zero]
  have hbB := hb1.trans (hb2.mono hb1.size)
  have hx2 := hx.below hbB
  go_wp2_with fail
  have mk : ∀ w', Below w2.heap.size w2 w' → (convert 30 9 (.slice a2 (zs.length + 8) c2)).run Try.prog w' = .ok (.string (strOfNums (frm zs))) w' :=
    fun w' h => run_string_row (hr2.below h) _ 5 _ Try.underlying30 Try.underlying5 Try.underlying9 c2
  have HMK := Lib.hid mk
  clear mk hr2 hx1
  refine wp_region_held_drew (S := (fun w' => (convert 30 9 (.slice a2 (zs.length + 8) c2)).run Try.prog w' = .ok (.string (strOfNums (frm zs))) w')) (by kernel_rfl) ?_ (fun hH => ?_)
  · exact HMK.out _ ((Below.refl _ _).drew)
  refine wpAnyH_take (i := 0) (v := ?_) (by simp only [List.getElem?_toArray, List.getElem?_cons_succ, List.getElem?_cons_zero]; rfl) (by kernel_rfl) (by kernel_rfl) (by kernel_rfl) (by exact fun _ _ _ h => h) (Or.inl ⟨by rfl, ?_⟩) hH ?_
  rotate_left
  · (intro wy hSw; (try dsimp only at hSw); go_simp; try (with_reducible rfl))
  try simp only [Act.put, List.setIfInBounds_toArray, List.set_cons_zero, List.set_cons_succ]
  refine wpAnyH_take (i := 1) (v := ?_) (by simp only [List.getElem?_toArray, List.getElem?_cons_succ, List.getElem?_cons_zero]; rfl) (by kernel_rfl) (by kernel_rfl) (by kernel_rfl) (by exact fun _ _ _ h => h) (Or.inl ⟨by rfl, ?_⟩) hH ?_
  rotate_left
  · (intro wy hSw; (try dsimp only at hSw); go_simp; try (with_reducible rfl))
  try simp only [Act.put, List.setIfInBounds_toArray, List.set_cons_zero, List.set_cons_succ]
  refine wpAnyH_take (i := 2) (v := ?_) (by simp only [List.getElem?_toArray, List.getElem?_cons_succ, List.getElem?_cons_zero]; rfl) (by kernel_rfl) (by kernel_rfl) (by kernel_rfl) (by exact fun _ _ _ h => h) (Or.inl ⟨by rfl, ?_⟩) hH ?_
  rotate_left
  · (intro wy hSw; (try dsimp only at hSw); go_simp; try (with_reducible rfl))
  try simp only [Act.put, List.setIfInBounds_toArray, List.set_cons_zero, List.set_cons_succ]
  refine wpAnyH_take (i := 3) (v := ?_) (by simp only [List.getElem?_toArray, List.getElem?_cons_succ, List.getElem?_cons_zero]; rfl) (by kernel_rfl) (by kernel_rfl) (by kernel_rfl) (by exact fun _ _ _ h => h) (Or.inl ⟨by rfl, ?_⟩) hH ?_
  rotate_left
  · (intro wy hSw; (try dsimp only at hSw); go_simp; try (with_reducible rfl))
  try simp only [Act.put, List.setIfInBounds_toArray, List.set_cons_zero, List.set_cons_succ]
  refine wpAnyH_take (i := 4) (v := ?_) (by simp only [List.getElem?_toArray, List.getElem?_cons_succ, List.getElem?_cons_zero]; rfl) (by kernel_rfl) (by kernel_rfl) (by kernel_rfl) (by exact fun _ _ _ h => h) (Or.inl ⟨by rfl, ?_⟩) hH ?_
  rotate_left
  · (intro wy hSw; (try dsimp only at hSw); go_simp; try (with_reducible rfl))
  try simp only [Act.put, List.setIfInBounds_toArray, List.set_cons_zero, List.set_cons_succ]
  refine wpAnyH_take (i := 5) (v := ?_) (by simp only [List.getElem?_toArray, List.getElem?_cons_succ, List.getElem?_cons_zero]; rfl) (by kernel_rfl) (by kernel_rfl) (by kernel_rfl) (by exact fun _ _ _ h => h) (Or.inl ⟨by rfl, ?_⟩) hH ?_
  rotate_left
  · (intro wy hSw; (try dsimp only at hSw); go_simp; try (with_reducible rfl))
  try simp only [Act.put, List.setIfInBounds_toArray, List.set_cons_zero, List.set_cons_succ]
  refine wpAnyH_ready (rs := [6]) (by kernel_rfl) (by simp) ?_
  refine AllReadyH.cons (by simp only [List.getElem?_toArray, List.getElem?_cons_succ, List.getElem?_cons_zero]; rfl) (fun K hK => ?_) AllReadyH.nil
  clear hH
  go_simp
  go_at_call 26
  refine (refFrame_any a0 cap0 zs w2.drew (hx2.row.below ((Below.refl _ w2).drew)) HX.out h3).mono ?_
  rintro e w3 ⟨v3, rfl, ho3, hb3⟩
  have hb3 : Below w2.heap.size w2 w3 := ((Below.refl _ w2).drew).trans hb3
  obtain ⟨a3, c3, rfl, hr3, hl3, hD3⟩ := own_shape ho3 (frm_bytes hx.row.2.1)
  have hstr3 := run_string_row (P := Try.prog) hr3 30 5 9 Try.underlying30 Try.underlying5 Try.underlying9 c3
  clear hr3 hl3 hD3 ho3
  refine hK.out _ _ ?_ (fun hH => ?_)
  · exact HMK.out _ (hb3)
  clear hK K
  try simp only [Act.put, List.setIfInBounds_toArray, List.set_cons_zero, List.set_cons_succ]
  refine wpAnyH_ready (rs := [7]) (by kernel_rfl) (by simp) ?_
  refine AllReadyH.cons (by simp only [List.getElem?_toArray, List.getElem?_cons_succ, List.getElem?_cons_zero]; rfl) (fun K hK => ?_) AllReadyH.nil
  clear hH
  go_simp
  refine hK.out _ _ ?_ (fun hH => ?_)
  · exact HMK.out _ (hb3)
  clear hK K
  try simp only [Act.put, List.setIfInBounds_toArray, List.set_cons_zero, List.set_cons_succ]
  refine wpAnyH_take (i := 8) (v := ?_) (by simp only [List.getElem?_toArray, List.getElem?_cons_succ, List.getElem?_cons_zero]; rfl) (by kernel_rfl) (by kernel_rfl) (by kernel_rfl) (by exact fun _ _ _ h => h) (Or.inl ⟨by rfl, ?_⟩) hH ?_
  rotate_left
  · (intro wy hSw; (try dsimp only at hSw); go_simp; try (with_reducible rfl))
  try simp only [Act.put, List.setIfInBounds_toArray, List.set_cons_zero, List.set_cons_succ]
  refine wpAnyH_take (i := 9) (v := ?_) (by simp only [List.getElem?_toArray, List.getElem?_cons_succ, List.getElem?_cons_zero]; rfl) (by kernel_rfl) (by kernel_rfl) (by kernel_rfl) (by exact fun _ _ _ h => h) (Or.inl ⟨by rfl, ?_⟩) hH ?_
  rotate_left
  · (intro wy hSw; (try dsimp only at hSw); go_simp; try (with_reducible rfl))
  try simp only [Act.put, List.setIfInBounds_toArray, List.set_cons_zero, List.set_cons_succ]
  refine wpAnyH_take (i := 10) (v := ?_) (by simp only [List.getElem?_toArray, List.getElem?_cons_succ, List.getElem?_cons_zero]; rfl) (by kernel_rfl) (by kernel_rfl) (by kernel_rfl) (by exact fun _ _ _ h => h) (Or.inl ⟨by rfl, ?_⟩) hH ?_
  rotate_left
  · (intro wy hSw; (try dsimp only at hSw); go_simp; try (with_reducible rfl))
  try simp only [Act.put, List.setIfInBounds_toArray, List.set_cons_zero, List.set_cons_succ]
  refine wpAnyH_take (i := 11) (v := ?_) (by simp only [List.getElem?_toArray, List.getElem?_cons_succ, List.getElem?_cons_zero]; rfl) (by kernel_rfl) (by kernel_rfl) (by kernel_rfl) (by exact fun _ _ _ h => h) (Or.inl ⟨by rfl, ?_⟩) hH ?_
  rotate_left
  · (intro wy hSw; (try dsimp only at hSw); go_simp; try (with_reducible rfl))
  try simp only [Act.put, List.setIfInBounds_toArray, List.set_cons_zero, List.set_cons_succ]
  refine wpAnyH_take (i := 12) (v := ?_) (by simp only [List.getElem?_toArray, List.getElem?_cons_succ, List.getElem?_cons_zero]; rfl) (by kernel_rfl) (by kernel_rfl) (by kernel_rfl) (by exact fun _ _ _ h => h) (Or.inl ⟨by rfl, ?_⟩) hH ?_
  rotate_left
  · (intro wy hSw; (try dsimp only at hSw); go_simp; try (with_reducible rfl))
  try simp only [Act.put, List.setIfInBounds_toArray, List.set_cons_zero, List.set_cons_succ]
  refine wpAnyH_take (i := 14) (v := ?_) (by simp only [List.getElem?_toArray, List.getElem?_cons_succ, List.getElem?_cons_zero]; rfl) (by kernel_rfl) (by kernel_rfl) (by kernel_rfl) (by exact fun _ _ _ h => h) (Or.inl ⟨by rfl, ?_⟩) hH ?_
  rotate_left
  · (intro wy hSw; (try dsimp only at hSw); go_simp; try (with_reducible rfl))
  try simp only [Act.put, List.setIfInBounds_toArray, List.set_cons_zero, List.set_cons_succ]
  refine wpAnyH_take (i := 15) (v := ?_) (by simp only [List.getElem?_toArray, List.getElem?_cons_succ, List.getElem?_cons_zero]; rfl) (by kernel_rfl) (by kernel_rfl) (by kernel_rfl) (by exact fun _ _ _ h => h) (Or.inl ⟨by rfl, ?_⟩) hH ?_
  rotate_left
  · (intro wy hSw; (try dsimp only at hSw); go_simp; try (with_reducible rfl))
  try simp only [Act.put, List.setIfInBounds_toArray, List.set_cons_zero, List.set_cons_succ]
  refine wpAnyH_ready (rs := [13]) (by kernel_rfl) (by simp) ?_
  refine AllReadyH.cons (by simp only [List.getElem?_toArray, List.getElem?_cons_succ, List.getElem?_cons_zero]; rfl) (fun K hK => ?_) AllReadyH.nil
  clear hH
  go_simp
  go_at_call 27
  refine (size_any _ (by omega) (by omega) _).mono ?_
  rintro e w' ⟨rfl, rfl⟩
  refine hK.out _ _ ?_ (fun hH => ?_)
  · exact HMK.out _ (hb3)
  clear hK K
  try simp only [Act.put, List.setIfInBounds_toArray, List.set_cons_zero, List.set_cons_succ]
  refine wpAnyH_take (i := 16) (v := ?_) (by simp only [List.getElem?_toArray, List.getElem?_cons_succ, List.getElem?_cons_zero]; rfl) (by kernel_rfl) (by kernel_rfl) (by kernel_rfl) (by exact fun _ _ _ h => h) (Or.inl ⟨by rfl, ?_⟩) hH ?_
  rotate_left
  · (intro wy hSw; (try dsimp only at hSw); go_simp; try (with_reducible rfl))
  try simp only [Act.put, List.setIfInBounds_toArray, List.set_cons_zero, List.set_cons_succ]
  refine wpAnyH_take (i := 17) (v := ?_) (by simp only [List.getElem?_toArray, List.getElem?_cons_succ, List.getElem?_cons_zero]; rfl) (by kernel_rfl) (by kernel_rfl) (by kernel_rfl) (by exact fun _ _ _ h => h) (Or.inl ⟨by rfl, ?_⟩) hH ?_
  rotate_left
  · (intro wy hSw; (try dsimp only at hSw); go_simp; try (with_reducible rfl))
  try simp only [Act.put, List.setIfInBounds_toArray, List.set_cons_zero, List.set_cons_succ]
  refine wpAnyH_done (by kernel_rfl) ?_ _
  have hbC := hbB.trans (hb3.mono hbB.size)
  clear hstr3
  have hin := hy.below hbC
  go_wp2_with fail
  refine (get_any a1 cap1 bs w3 hin (by omega)).mono ?_
  rintro e w8 ⟨v8, rfl, ho8, hb8⟩
  obtain ⟨a8, c8, rfl, hr8, hl8, hD8⟩ := own_shape ho8 (body_bytes hy.row.2.1)
  clear ho8 hl8 hD8
  have hbx := hbC.trans (hb8.mono hbC.size)
  go_wp2_with fail
  refine (refGet_any a1 cap1 bs w8 (hin.below hb8) (by omega)).mono ?_
  unfold RefGets
  rintro e w9 ⟨a9, c9, rfl, hr9, hb9⟩
  have hs1 := fun dst hd => run_string_row (P := Try.prog) (hr8.below hb9) 30 5 dst Try.underlying30 Try.underlying5 hd c8
  have hs2 := fun dst hd => run_string_row (P := Try.prog) hr9 30 5 dst Try.underlying30 Try.underlying5 hd c9
  have hbz := hbx.trans (hb9.mono hbx.size)
  have hbad := bad_le bs
  clear hr8 hr9 hin
  go_wp2_with fail
  refine (code_any (bad bs) (by omega) (by omega) _).mono ?_
  rintro e w' ⟨rfl, rfl⟩
  go_wp2_with fail
  go_ret
  exact ⟨rfl, hbz⟩
end Go.Proofs.Ytiaaadeenbjciaa.Frame

/- Contracts of layer 5: Put, Get and Size, and the reference's Frame and Get. -/
import Derived.Test.YtiaaadeenbjciaaFrameMath
import Derived.Test.YtiaaadeenbjciaaCrcAdd
import Derived.Test.YtiaaadeenbjciaaErr
namespace Go.Proofs.Ytiaaadeenbjciaa.Frame
open Go.Proofs.Ytiaaadeenbjciaa.Mem Go.Proofs.Ytiaaadeenbjciaa.Err
open Go.Proofs.Ytiaaadeenbjciaa.Pack (put num got left shortBy put_length put_bytes put_any refPut_any new_any number_any Rd Rf refNumber_any rf_new u8_info)
open Go.Proofs.Ytiaaadeenbjciaa.Crc (sumOf sumOf_lt sum_any refSum_any)
open Go.ChangeShapes Go.WideShapes Go.ChangeAt Go.RowKit
set_option linter.unusedVariables false

theorem size_any (n : Int) (h0 : 0 ≤ n) (h : n ≤ 9000000000) (w : World) :
    Calls Try.prog 27 #[.int .i64 n] w fun e w' => e = .returned (.int .i64 (8 + n)) ∧ w = w' := by
  go_enter Try.func27, Try.ntmps27
  go_wp2
  go_ret
  exact ⟨rfl, rfl⟩
theorem may_yes (n : Int) (h1 : 1 ≤ n) (h2 : n ≤ 20000) (w : World) :
    Calls Try.prog 41 #[.int .u64 n] w fun e w' => e = .returned (.bool true) ∧ w = w' := by
  go_enter Try.func41, Try.ntmps41
  go_wp2
  go_ret
  exact ⟨rfl, rfl⟩
theorem may_no (n : Int) (h0 : 0 ≤ n) (h : n < 1 ∨ 20000 < n) (w : World) :
    Calls Try.prog 41 #[.int .u64 n] w fun e w' => e = .returned (.bool false) ∧ w = w' := by
  rcases h with h | h
  · go_enter Try.func41, Try.ntmps41
    go_wp2
    go_ret
    exact ⟨rfl, rfl⟩
  · have h1 : 1 ≤ n := by omega
    have h2 : decide (n ≤ 20000) = false := by simp; omega
    go_enter Try.func41, Try.ntmps41
    go_wp2
    go_ret
    exact ⟨rfl, rfl⟩
set_option maxRecDepth 100000 in
set_option maxHeartbeats 1000000 in
theorem put_no (a : Option Addr) (len cap : Nat) (w : World) (hm : len ≤ 1073741824) (h : len < 1 ∨ 20000 < len) :
    Calls Try.prog 25 #[.slice a len cap] w fun e w' => e = .returned (.tuple #[.slice none 0 0, errV 13]) ∧ w = w' := by
  go_enter Try.func25, Try.ntmps25
  go_wp2_with fail
  refine (may_no _ (by omega) (by omega) _).mono ?_
  rintro e w' ⟨rfl, rfl⟩
  go_wp2_with fail
  go_ret2
  exact ⟨rfl, rfl⟩
set_option maxRecDepth 100000 in
set_option maxHeartbeats 2000000 in
theorem put_yes (a : Option Addr) (cap : Nat) (zs : List Int) (w : World) (h : Row w a zs.length zs) (hn : a = none → cap = 0) (h1 : 1 ≤ zs.length) (h2 : zs.length ≤ 20000) :
    Calls Try.prog 25 #[.slice a zs.length cap] w fun e w' => ∃ v, e = .returned (.tuple #[v, errV 0]) ∧ w'.ownsRow w.heap.size 5 1 v (zs.length + 8) (cellsOf (frm zs)) ∧ Below w.heap.size w w' := by
  obtain ⟨i0, hi0, hz0, hz1, hz2⟩ := info_parts u8_info
  have HN := Lib.hid hn
  clear hn
  have hs := sumOf_lt 0 zs
  go_enter Try.func25, Try.ntmps25
  go_wp2_with fail
  refine (may_yes _ (by omega) (by omega) _).mono ?_
  rintro e w' ⟨rfl, rfl⟩
  go_wp2_with fail
  refine (size_any _ (by omega) (by omega) _).mono ?_
  rintro e w' ⟨rfl, rfl⟩
  go_wp2_with (at_make; refine wpList_make_own _ rfl _ _ 30 rfl w.heap.size 5 i0 _ 1 Try.underlying30 hi0 hz0 hz1 .i64 .i64 (8 + (zs.length : Int)) (8 + zs.length) rfl rfl (by omega) (by rw [hz2]; omega) (by unfold maxLen; omega) (Nat.le_refl _) ?_; intro w1 ho1 hg1)
  have hb1 : Below w.heap.size w w1 := (Below.refl _ w).grown hg1 (Nat.le_refl _) (fun k hk => by cases hk)
  have hx1 := h.below hb1
  clear hg1
  refine (put_any zs.length (by omega) 4 (by omega) (by omega) _ 0 [] w.heap.size w1 ho1 hb1.size (by omega)).mono ?_
  rintro e w2 ⟨v2, rfl, ho2, hon2⟩
  have hb2 := hb1.trans (hon2.below ho1 hb1.size)
  have hx2 := h.below hb2
  clear hon2 ho1 hx1 hb1
  go_wp2_with fail
  refine (sum_any a _ cap zs w2 hx2 (by omega)).mono ?_
  rintro e w' ⟨rfl, rfl⟩
  go_wp2_with fail
  refine (put_any (sumOf 0 zs) (by omega) 4 (by omega) (by omega) v2 _ _ w.heap.size w2 ho2 hb2.size (by omega)).mono ?_
  rintro e w3 ⟨v3, rfl, ho3, hon3⟩
  have hb3 := hb2.trans (hon3.below ho2 hb2.size)
  have hx3 := h.below hb3
  clear hon3 ho2 hx2 hb2
  go_wp2_with (at_builtin; refine wpList_append_onto rfl _ _ 30 rfl w.heap.size 5 i0 _ 1 1 Try.underlying30 hi0 hz0 hz1 hz2 rfl (by omega) v3 _ _ rfl ho3 (.slice a zs.length cap) zs.length (cellsOf zs) rfl (hx3.sees HN.out) (cellsOf_one zs) (by simp only [maxLen]; omega) (by omega) hb3.size ?_; intro v4 w4 ho4 hon4)
  have hb4 := hb3.trans (hon4.below ho3 hb3.size)
  go_ret2
  refine ⟨v4, rfl, ?_, hb4⟩
  have e1 : 0 + 4 + 4 + zs.length = zs.length + 8 := by omega
  rw [e1, ← cellsOf_append] at ho4
  exact ho4
set_option maxRecDepth 100000 in
set_option maxHeartbeats 2000000 in
theorem refFrame_any (a : Option Addr) (cap : Nat) (zs : List Int) (w : World) (h : Row w a zs.length zs) (hn : a = none → cap = 0) (h2 : zs.length ≤ 20000) :
    Calls Try.prog 26 #[.slice a zs.length cap] w fun e w' => ∃ v, e = .returned v ∧ w'.ownsRow w.heap.size 5 1 v (zs.length + 8) (cellsOf (frm zs)) ∧ Below w.heap.size w w' := by
  obtain ⟨i0, hi0, hz0, hz1, hz2⟩ := info_parts u8_info
  have HN := Lib.hid hn
  clear hn
  have hs := sumOf_lt 0 zs
  go_enter Try.func26, Try.ntmps26
  go_wp2_with fail
  refine (refPut_any zs.length (by omega) 4 (by omega) (.slice none 0 0) 0 [] w.heap.size w (World.ownsRow_nil _ _ _ _) (Nat.le_refl _) (by omega)).mono ?_
  rintro e w2 ⟨v2, rfl, ho2, hon2⟩
  have hb2 := hon2.below (World.ownsRow_nil w w.heap.size 5 1) (Nat.le_refl _)
  have hx2 := h.below hb2
  clear hon2
  go_wp2_with fail
  refine (refSum_any a _ cap zs w2 hx2 (by omega)).mono ?_
  rintro e w' ⟨rfl, rfl⟩
  go_wp2_with fail
  refine (refPut_any (sumOf 0 zs) (by omega) 4 (by omega) v2 _ _ w.heap.size w2 ho2 hb2.size (by omega)).mono ?_
  rintro e w3 ⟨v3, rfl, ho3, hon3⟩
  have hb3 := hb2.trans (hon3.below ho2 hb2.size)
  have hx3 := h.below hb3
  clear hon3 ho2 hx2 hb2
  go_wp2_with (at_builtin; refine wpList_append_onto rfl _ _ 30 rfl w.heap.size 5 i0 _ 1 1 Try.underlying30 hi0 hz0 hz1 hz2 rfl (by omega) v3 _ _ rfl ho3 (.slice a zs.length cap) zs.length (cellsOf zs) rfl (hx3.sees HN.out) (cellsOf_one zs) (by simp only [maxLen]; omega) (by omega) hb3.size ?_; intro v4 w4 ho4 hon4)
  have hb4 := hb3.trans (hon4.below ho3 hb3.size)
  go_ret
  refine ⟨v4, rfl, ?_, hb4⟩
  have e1 : 0 + 4 + 4 + zs.length = zs.length + 8 := by omega
  rw [e1, ← cellsOf_append] at ho4
  exact ho4
end Go.Proofs.Ytiaaadeenbjciaa.Frame

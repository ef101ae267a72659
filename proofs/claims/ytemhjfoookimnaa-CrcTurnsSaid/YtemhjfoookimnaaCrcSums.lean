/- CrcSums holds for every two slices of bytes: the walk of the law; the shell that lifts it stands in its own text. -/
import Derived.Test.YtemhjfoookimnaaCrcAdd
namespace Go.Proofs.Ytemhjfoookimnaa.Crc
open Go.Proofs.Ytemhjfoookimnaa.Mem
open Go.ChangeShapes Go.WideShapes Go.ChangeAt Go.RowKit
set_option linter.unusedVariables false

theorem u8_info : (Try.prog.info? 5).map (fun i => (i.zero, i.size, i.bytes)) = some (some (.int .u8 0), 1, 1) := by kernel_rfl

set_option maxHeartbeats 400000 in
theorem sums_long (a0 a1 : Option Addr) (len0 cap0 len1 cap1 : Nat) (w : World) (hm0 : len0 ≤ maxLen) (hm1 : len1 ≤ maxLen) (h : 3000 < len0 ∨ 3000 < len1) :
    Calls Try.prog 3 #[.slice a0 len0 cap0, .slice a1 len1 cap1] w fun e w' => e = .returned (.bool true) ∧ Below w.heap.size w w' := by
  unfold maxLen at hm0 hm1
  by_cases h0 : 3000 < len0
  · go_enter Try.func3, Try.ntmps3
    go_wp2_with (go_at_call 6; refine (up_any _).mono ?_; rintro e w1 ⟨rfl, hb⟩)
    go_ret
    exact ⟨rfl, hb⟩
  · have h1 : 3000 < len1 := by omega
    go_enter Try.func3, Try.ntmps3
    go_wp2_with (go_at_call 6; refine (up_any _).mono ?_; rintro e w1 ⟨rfl, hb⟩)
    go_ret
    exact ⟨rfl, hb⟩

set_option maxHeartbeats 1000000 in
theorem sums_short (a0 a1 : Option Addr) (len0 cap0 len1 cap1 : Nat) (xs ys : List Int) (w : World) (hx : Row w a0 len0 xs) (hy : Row w a1 len1 ys) (hn0 : a0 = none → cap0 = 0) (hn1 : a1 = none → cap1 = 0) (h0 : len0 ≤ 3000) (h1 : len1 ≤ 3000) :
    Calls Try.prog 3 #[.slice a0 len0 cap0, .slice a1 len1 cap1] w fun e w' => e = .returned (.bool true) ∧ Below w.heap.size w w' := by
  obtain ⟨i0, hi0, hz0, hz1, hz2⟩ := info_parts u8_info
  have HN0 := Lib.hid hn0
  have HN1 := Lib.hid hn1
  clear hn0 hn1
  go_enter Try.func3, Try.ntmps3
  go_wp2_with (first
    | (go_at_call 6; refine (up_any _).mono ?_; rintro e w1 ⟨rfl, hb⟩; have hx1 := hx.below hb; have hy1 := hy.below hb; have hsz := hb.size)
    | (at_builtin
       refine wpList_append_sees rfl (.tmp 18) (.tmp 19) _ rfl w1.heap.size 5 i0 _ 1 1 Try.underlying22 hi0 hz0 hz1 hz2 rfl (by omega) (.slice (some ⟨w1.heap.size, 0, none⟩) 0 0) 0 [] rfl
         (World.ownsRow_made w1 #[] 0 (Nat.le_refl _) (by simp) (by simp)) (.slice a0 len0 cap0) len0 (cellsOf xs) rfl ((hx1.sees HN0.out).below ((Below.refl _ _).alloc (Nat.le_refl _) _)) (cellsOf_one xs) (by simp only [maxLen]; omega) (by omega) (by simp) ?_
       intro v1 w2 hown1 hg1
       have hb1 : Below w1.heap.size w1 w2 := ((Below.refl _ _).alloc (Nat.le_refl _) _).trans hg1)
    | (at_builtin
       refine wpList_append_sees rfl (.tmp 20) (.tmp 21) _ rfl w1.heap.size 5 i0 _ 1 1 Try.underlying22 hi0 hz0 hz1 hz2 rfl (by omega) v1 (0 + len0) ([] ++ cellsOf xs) rfl
         hown1 (.slice a1 len1 cap1) len1 (cellsOf ys) rfl ((hy1.sees HN1.out).below hb1) (cellsOf_one ys) (by simp only [maxLen]; omega) (by omega) hb1.size ?_
       intro v2 w3 hown2 hg2))
  have hb2 : Below w1.heap.size w1 w3 := hb1.trans hg2
  have hown : w3.ownsRow w1.heap.size 5 1 v2 (len0 + len1) (cellsOf (xs ++ ys)) := by
    rw [cellsOf_append]; simpa using hown2
  obtain ⟨a2, cap2, hv2, hr2, -, -, -⟩ := Row.of_own hown (bytes_append hx.2.1 hy.2.1)
  have hx3 := hx1.below hb2
  have hy3 := hy1.below hb2
  have hfin : Below w.heap.size w w3 := hb.trans (hb2.mono hb.size)
  have HS := Lib.hid (sumOf_append (s := 0) (ys := ys) hx.2.1)
  clear hown hown1 hown2 hg1 hg2 hb1 hb2 hx1 hy1 hx hy hb
  rw [hv2]
  clear hv2
  have hlt := sumOf_lt 0 xs
  have c4 := add_any (sumOf 0 xs) hlt a1 len1 cap1 ys w3 hy3 (by omega)
  rw [HS.out] at c4
  have C4 := Lib.hid c4
  clear c4
  refine (refSum_any _ _ _ (xs ++ ys) _ hr2 (by omega)).mono ?_
  rintro e w' ⟨rfl, rfl⟩
  go_wp2_with fail
  refine (sum_any _ _ _ (xs ++ ys) _ hr2 (by omega)).mono ?_
  rintro e w' ⟨rfl, rfl⟩
  go_wp2_with fail
  refine (sum_any _ _ _ xs _ hx3 (by omega)).mono ?_
  rintro e w' ⟨rfl, rfl⟩
  go_wp2_with fail
  refine C4.out.mono ?_
  rintro e w' ⟨rfl, rfl⟩
  go_wp2_with fail
  go_ret
  exact ⟨rfl, hfin⟩
end Go.Proofs.Ytemhjfoookimnaa.Crc

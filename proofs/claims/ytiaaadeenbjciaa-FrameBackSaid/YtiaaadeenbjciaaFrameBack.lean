/- FrameBack: what was put is got as it was; no beginning of it is a frame, and none with a byte of the body changed: the walk of the law. -/
import Derived.Test.YtiaaadeenbjciaaFrameUp
import Derived.Test.YtiaaadeenbjciaaCrcKit
import Derived.ChangeAlike
import Derived.BigRegion
namespace Go.Proofs.Ytiaaadeenbjciaa.Frame
open Go.Proofs.Ytiaaadeenbjciaa.Mem Go.Proofs.Ytiaaadeenbjciaa.Err
open Go.Proofs.Ytiaaadeenbjciaa.Pack (put u8_info)
open Go.Proofs.Ytiaaadeenbjciaa.Crc (sumOf sum_turned xor_lt8 xor_ne)
open Go.ChangeShapes Go.WideShapes Go.ChangeAt Go.RowKit
set_option linter.unusedVariables false
set_option linter.unusedSimpArgs false

set_option maxRecDepth 100000 in
set_option maxHeartbeats 2000000 in
theorem back_long (a0 a1 : Option Addr) (len0 cap0 len1 cap1 : Nat) (cut at_ x : Int) (w : World) (hm0 : len0 ≤ 9223372036854775807) (hm1 : len1 ≤ 9223372036854775807) (h : 3000 < len0 ∨ 3000 < len1 ∨ cut < 0 ∨ at_ < 0) :
    Calls Try.prog 5 #[.slice a0 len0 cap0, .slice a1 len1 cap1, .int .i64 cut, .int .i64 at_, .int .u8 x] w fun e w' => e = .returned (.bool true) ∧ Below w.heap.size w w' := by
  by_cases h0 : 3000 < len0
  · clear h
    go_enter Try.func5, Try.ntmps5
    go_wp2_with fail
    refine (up_any w).mono ?_
    rintro e w1 ⟨rfl, hb1⟩
    go_wp2_with fail
    go_ret
    exact ⟨rfl, hb1⟩
  by_cases h1 : 3000 < len1
  · clear h
    go_enter Try.func5, Try.ntmps5
    go_wp2_with fail
    refine (up_any w).mono ?_
    rintro e w1 ⟨rfl, hb1⟩
    go_wp2_with fail
    go_ret
    exact ⟨rfl, hb1⟩
  by_cases h2 : cut < 0
  · clear h
    go_enter Try.func5, Try.ntmps5
    go_wp2_with fail
    refine (up_any w).mono ?_
    rintro e w1 ⟨rfl, hb1⟩
    go_wp2_with fail
    go_ret
    exact ⟨rfl, hb1⟩
  · have h3 : at_ < 0 := by omega
    clear h
    go_enter Try.func5, Try.ntmps5
    go_wp2_with fail
    refine (up_any w).mono ?_
    rintro e w1 ⟨rfl, hb1⟩
    go_wp2_with fail
    go_ret
    exact ⟨rfl, hb1⟩
set_option maxRecDepth 100000 in
set_option maxHeartbeats 2000000 in
theorem back_none (a0 a1 : Option Addr) (cap0 len1 cap1 : Nat) (cut at_ x : Int) (w : World) (h1 : len1 ≤ 3000) (h2 : 0 ≤ cut) (h3 : 0 ≤ at_) :
    Calls Try.prog 5 #[.slice a0 0 cap0, .slice a1 len1 cap1, .int .i64 cut, .int .i64 at_, .int .u8 x] w fun e w' => e = .returned (.bool true) ∧ Below w.heap.size w w' := by
  have kq := errV_some (c := 13) (by omega)
  have KQ := Lib.hid kq
  clear kq
  go_enter Try.func5, Try.ntmps5
  go_wp2_with fail
  refine (up_any w).mono ?_
  rintro e w1 ⟨rfl, hb1⟩
  go_wp2_with fail
  have kp := put_no a0 0 cap0 w1 (by omega) (.inl (by omega))
  rw [KQ.out] at kp
  refine kp.mono ?_
  rintro e w' ⟨rfl, rfl⟩
  clear kp
  go_wp2_with fail
  go_ret
  exact ⟨rfl, hb1⟩
theorem frm_at (zs : List Int) (r : Nat) : (frm zs).getD (8 + r) 0 = zs.getD r 0 := by
  have h := drop_frm zs []
  rw [List.append_nil, List.append_nil] at h
  have h2 : ((frm zs).drop 8).getD r 0 = zs.getD r 0 := by rw [h]
  rw [← h2]
  simp [List.getD, List.getElem?_drop]
theorem set_frm (zs : List Int) (r : Nat) (y : Int) : (frm zs).set (8 + r) y = put zs.length 4 ++ put (sumOf 0 zs) 4 ++ zs.set r y := by
  have e8 : (put zs.length 4 ++ put (sumOf 0 zs) 4).length = 8 := by rw [List.length_append, Pack.put_length, Pack.put_length]
  unfold frm
  rw [List.set_append_right _ _ (by omega), e8, Nat.add_sub_cancel_left]
theorem get_at (a : Option Addr) (len cap : Nat) (bs : List Int) (w : World) (h : In w a len cap bs) (hl : len ≤ 1073741824) :
    Calls Try.prog 28 #[.slice a len cap] w fun e w' => ∃ v, e = .returned (.tuple #[v, .int .i64 (many bs : Int), errV (bad bs : Int)]) ∧ w'.ownsRow w.heap.size 5 1 v (body bs).length (cellsOf (body bs)) ∧ Below w.heap.size w w' := by
  obtain rfl : bs.length = len := h.row.1
  exact get_any a cap bs w h hl
set_option maxRecDepth 100000 in
set_option maxHeartbeats 8000000 in
theorem back_yes (a0 a1 : Option Addr) (cap0 cap1 k m x : Nat) (zs bs : List Int) (w : World) (hx : In w a0 zs.length cap0 zs) (hy : In w a1 bs.length cap1 bs) (h1 : bs.length ≤ 3000) (h2 : 1 ≤ zs.length) (h3 : zs.length ≤ 3000)
    (hk : k ≤ 9223372036854775807) (hm : m ≤ 9223372036854775807) (hx8 : x < 256) :
    Calls Try.prog 5 #[.slice a0 zs.length cap0, .slice a1 bs.length cap1, .int .i64 (k : Int), .int .i64 (m : Int), .int .u8 (x : Int)] w fun e w' => e = .returned (.bool true) ∧ Below w.heap.size w w' := by
  obtain ⟨i0, hi0, hz0, hz1, hz2⟩ := info_parts u8_info
  have HX := Lib.hid hx.nil
  have HY := Lib.hid hy.nil
  have t0 : decide ((k : Int) < 0) = false := by simp
  have t1 : decide ((m : Int) < 0) = false := by simp
  go_enter Try.func5, Try.ntmps5
  go_wp2_with fail
  refine (up_any w).mono ?_
  rintro e w1 ⟨rfl, hb1⟩
  have hx1 := hx.below hb1
  go_wp2_with fail
  refine (put_yes a0 cap0 zs w1 hx1.row HX.out h2 (by omega)).mono ?_
  rintro e w2 ⟨v2, rfl, ho2, hb2⟩
  obtain ⟨a2, c2, rfl, hr2, hl2, hD2⟩ := own_shape ho2 (frm_bytes hx.row.2.1)
  have ifr : In w2 a2 (zs.length + 8) c2 (frm zs) := by
    rcases hD2 with ⟨_, _, h⟩ | ⟨g, rfl, _, _, h4, h5⟩
    · omega
    · exact ⟨hr2, h4, h5, by simp⟩
  clear ho2 hl2 hr2 hD2
  rw [errV_zero]
  have hbB := hb1.trans (hb2.mono hb1.size)
  have hx2 := hx.below hbB
  have hy2 := hy.below hbB
  clear hb1 hb2 hx1
  go_wp2_with (first
    | (at_builtin
       refine wpList_append_onto rfl (.tmp 59) (.tmp 60) _ rfl w2.heap.size 5 i0 _ 1 1 Try.underlying30 hi0 hz0 hz1 hz2 rfl (by omega) (.slice (some ⟨w2.heap.size, 0, none⟩) 0 0) 0 [] rfl
         (World.ownsRow_made w2 #[] 0 (Nat.le_refl _) (by simp) (by simp)) (.slice a2 (zs.length + 8) c2) (zs.length + 8) (cellsOf (frm zs)) rfl ((ifr.row.sees ifr.nil).below ((Below.refl _ _).alloc (Nat.le_refl _) _)) (cellsOf_one _) (by simp only [maxLen]; omega) (by omega) (by simp) ?_
       intro v3 w3 ho3 hon3
       have hb3 : Below w2.heap.size w2 w3 := ((Below.refl _ _).alloc (Nat.le_refl _) _).trans (hon3.below (World.ownsRow_made (e := 5) (size := 1) w2 #[] 0 (Nat.le_refl _) (by simp) (by simp)) (by simp))
       have hy3 := hy2.below hb3)
    | (at_builtin
       refine wpList_append_onto rfl (.tmp 61) (.tmp 62) _ rfl w2.heap.size 5 i0 _ 1 1 Try.underlying30 hi0 hz0 hz1 hz2 rfl (by omega) v3 _ _ rfl ho3 (.slice a1 bs.length cap1) bs.length (cellsOf bs) rfl (hy3.row.sees HY.out) (cellsOf_one _) (by simp only [maxLen]; omega) (by omega) hb3.size ?_
       intro v4 w4 ho4 hon4
       have hb4 := hb3.trans (hon4.below ho3 hb3.size)))
  have hbyA : Bytes (frm zs ++ bs) := bytes_append (frm_bytes hx.row.2.1) hy.row.2.1
  have ho4' : w4.ownsRow w2.heap.size 5 1 v4 (0 + (zs.length + 8) + bs.length) (cellsOf (frm zs ++ bs)) := by rw [cellsOf_append]; simpa using ho4
  obtain ⟨a4, c4, rfl, hr4, hl4, hD4⟩ := own_shape ho4' hbyA
  have i4 : In w4 a4 (0 + (zs.length + 8) + bs.length) c4 (frm zs ++ bs) := by
    rcases hD4 with ⟨_, _, h⟩ | ⟨g, rfl, _, _, h4, h5⟩
    · omega
    · exact ⟨hr4, h4, h5, by simp⟩
  clear ho3 hon3 ho4 ho4' hon4 hl4 hr4 hD4 hy3 hb3 hbyA
  have k1 := get_at a4 _ c4 (frm zs ++ bs) w4 i4 (by omega)
  rw [bad_frm h2 (by omega), body_frm h2 (by omega), many_frm h2 (by omega)] at k1
  refine k1.mono ?_
  rintro e w5 ⟨v5, rfl, ho5, hb5⟩
  obtain ⟨a5, c5, rfl, hr5, -, -⟩ := own_shape ho5 hx.row.2.1
  rw [show (((0 : Nat) : Int)) = 0 from rfl, errV_zero]
  have hbC : Below w2.heap.size w2 w5 := hb4.trans (hb5.mono hb4.size)
  clear k1 ho5 i4 hb4 hb5
  have ifr5 := ifr.below hbC
  have hx5 := hx2.below hbC
  obtain ⟨j, hj⟩ : ∃ j, j = k % (zs.length + 8) := ⟨_, rfl⟩
  have hj2 : j < zs.length + 8 := by rw [hj]; exact Nat.mod_lt _ (by omega)
  have hj1 : (k : Int) % ((zs.length : Int) + 8) = (j : Int) := by rw [hj]; push_cast; rfl
  clear hj
  have i6 : In w5 a2 j c2 ((frm zs).take j) := by
    obtain ⟨g, off, rfl, _⟩ := ifr5.row.2.2 (by omega)
    have hrow := Pack.Row.part ifr5.row 0 j (by omega) (some ⟨g, off, none⟩) (fun _ => rfl)
    exact ⟨by simpa using hrow, by have := ifr5.fits; omega, ifr5.small, by simp⟩
  have hcc : (c2 : Int) ≤ 9223372036854775807 := by have := ifr5.small; simp only [maxLen] at this; omega
  have hc8 : (zs.length : Int) + 8 ≤ (c2 : Int) := by have := ifr5.fits; omega
  go_wp2_with fail
  have k2 := get_at a2 j c2 _ w5 i6 (by omega)
  rw [bad_cut h2 (by omega) j (by omega)] at k2
  have q1 : bad ((frm zs).take j) ≠ 0 := by rw [bad_cut h2 (by omega) j (by omega)]; omega
  rw [body_none q1, many_none q1] at k2
  refine k2.mono ?_
  rintro e w6 ⟨v6, rfl, ho6, hb6⟩
  obtain ⟨a6, c6, rfl, hr6, -, -⟩ := own_shape ho6 bytes_nil
  have kq := errV_some (c := ((3 : Nat) : Int)) (by omega)
  rw [kq]
  have hr5' := hr5.below hb6
  have hx6 := hx5.below hb6
  have ifr6 := ifr5.below hb6
  have hs1 := fun dst hd => run_string_row (P := Try.prog) hr5' 30 5 dst Try.underlying30 Try.underlying5 hd c5
  have hs2 := fun dst hd => run_string_row (P := Try.prog) hx6.row 30 5 dst Try.underlying30 Try.underlying5 hd cap0
  have ke := code_neq
  have hbD : Below w.heap.size w w6 := (hbB.trans (hbC.mono hbB.size)).trans (hb6.mono (hbB.trans (hbC.mono hbB.size)).size)
  clear k2 q1 kq ho6 hr6 hr5 hr5' hx5 i6 hj1 hb6 hbC
  by_cases hx0 : x = 0
  · have hxz : ((x : Int) == 0) = true := by simp [hx0]
    clear hx0
    go_wp2_with fail
    go_ret
    exact ⟨rfl, hbD⟩
  have hxz : ((x : Int) == 0) = false := by simp [hx0]
  have hlb : (((zs.length : Int) + 8) != ((zs.length : Int) + 8)) = false := by simp
  go_wp2_with (at_builtin
               refine wpList_append_onto rfl (.tmp 114) (.tmp 115) _ rfl w6.heap.size 5 i0 _ 1 1 Try.underlying30 hi0 hz0 hz1 hz2 rfl (by omega) (.slice (some ⟨w6.heap.size, 0, none⟩) 0 0) 0 [] rfl
                 (World.ownsRow_made w6 #[] 0 (Nat.le_refl _) (by simp) (by simp)) (.slice a2 (zs.length + 8) c2) (zs.length + 8) (cellsOf (frm zs)) rfl ((ifr6.row.sees ifr6.nil).below ((Below.refl _ _).alloc (Nat.le_refl _) _)) (cellsOf_one _) (by simp only [maxLen]; omega) (by omega) (by simp) ?_
               intro v7 w7 ho7 hon7
               have hb7 : Below w6.heap.size w6 w7 := ((Below.refl _ _).alloc (Nat.le_refl _) _).trans (hon7.below (World.ownsRow_made (e := 5) (size := 1) w6 #[] 0 (Nat.le_refl _) (by simp) (by simp)) (by simp)))
  have ho7' : w7.ownsRow w6.heap.size 5 1 v7 (zs.length + 8) (cellsOf (frm zs)) := by simpa using ho7
  obtain ⟨a7, c7, rfl, hr7, hl7, hD7⟩ := own_shape ho7' (frm_bytes hx.row.2.1)
  obtain ⟨g, rfl, hg1, hg2, hg3, hg4⟩ : ∃ g, a7 = some ⟨g, 0, none⟩ ∧ w6.heap.size ≤ g ∧ g < w7.heap.size ∧ zs.length + 8 ≤ c7 ∧ c7 ≤ maxLen := by
    rcases hD7 with ⟨_, _, h⟩ | h
    · omega
    · exact h
  obtain ⟨r, hr⟩ : ∃ r, r = m % zs.length := ⟨_, rfl⟩
  have hrl : r < zs.length := by rw [hr]; exact Nat.mod_lt _ (by omega)
  have hr1 : (m : Int) % (zs.length : Int) = (r : Int) := by rw [hr]; push_cast; rfl
  clear hr
  have hkx : 8 + r < (frm zs).length := by rw [frm_length]; omega
  obtain ⟨c, hcb, hce⟩ : ∃ c : Nat, c < 256 ∧ zs.getD r 0 = (c : Int) := ⟨(zs.getD r 0).toNat, by have := getD_byte hx.row.2.1 hrl; omega, by have := getD_byte hx.row.2.1 hrl; omega⟩
  have hc1 : w7.cell? ⟨g, 8 + r, none⟩ = some (.int .u8 (c : Int)) := by
    rw [ho7'.cellAt (8 + r) (by omega), cellsOf_get hkx, ← hce, frm_at]
  have hf1 : w7.frozen? ⟨g, 8 + r, none⟩ = false := ho7'.frozenAt (8 + r)
  have hxr := u8_xor_nat c x hcb hx8
  have hst := ho7'.stored (8 + r) (.int .u8 ((c ^^^ x : Nat) : Int))
  rw [cellsOf_set, set_frm] at hst
  have hy8 := xor_lt8 hcb hx8
  have hbs := bytes_set hx.row.2.1 r (y := ((c ^^^ x : Nat) : Int)) (by omega)
  have hne := sum_turned hx.row.2.1 hrl (y := ((c ^^^ x : Nat) : Int)) (by omega) (by rw [hce]; intro e; exact xor_ne (c := c) (x := x) (by omega) (by omega))
  have HNE := Lib.hid hne
  have HST := Lib.hid hst
  have HBS := Lib.hid hbs
  have HB7 := Lib.hid hb7
  have HBD := Lib.hid hbD
  have b1 : (r : Int) < (zs.length : Int) := by omega
  have b2 : (8 : Int) + (r : Int) < (zs.length : Int) + 8 := by omega
  have b3 : (zs.length : Int) + 8 ≤ (c7 : Int) := by omega
  have b4 : ((zs.length : Int) == 0) = false := beq_eq_false_iff_ne.2 (by omega)
  have b5 : ((8 : Int) + (r : Int)).toNat = 8 + r := by omega
  have b6 : (0 : Int) < (zs.length : Int) := by omega
  clear hne hst hbs hb7 hbD hon7 ho7 ho7' hr7 hl7 hD7 hs1 hs2 hx6 ifr6 ifr5 hce hkx hlb hxz
  go_region
  go_wp2_with fail
  have hbE : Below w.heap.size w ((w7.setCell ⟨g, 8 + r, none⟩ (.int .u8 ((c ^^^ x : Nat) : Int))).drew) :=
    (HBD.out.trans ((HB7.out.setCell (p := ⟨g, 8 + r, none⟩) hg1 _).mono HBD.out.size)).drew
  have hor : ((w7.setCell ⟨g, 8 + r, none⟩ (.int .u8 ((c ^^^ x : Nat) : Int))).drew).ownsRow w6.heap.size 5 1 (.slice (some ⟨g, 0, none⟩) (zs.length + 8) c7) (zs.length + 8) (cellsOf (put zs.length 4 ++ put (sumOf 0 zs) 4 ++ zs.set r ((c ^^^ x : Nat) : Int))) := HST.out.1.drew
  obtain ⟨a8, c8, hv8, hr8, -, -⟩ := own_shape hor (bytes_append (bytes_append (Pack.put_bytes _ _) (Pack.put_bytes _ _)) HBS.out)
  injection hv8 with hv8 _ hv9
  subst hv8 hv9
  have i8 : In ((w7.setCell ⟨g, 8 + r, none⟩ (.int .u8 ((c ^^^ x : Nat) : Int))).drew) (some ⟨g, 0, none⟩) (zs.length + 8) c7 _ := ⟨hr8, hg3, hg4, by simp⟩
  have k8 := get_at _ _ _ _ _ i8 (by omega)
  have q8 := bad_other (zs := zs) (ys := zs.set r ((c ^^^ x : Nat) : Int)) h2 (by omega) (by simp) (fun h => HNE.out h.symm)
  rw [body_none (by rw [q8]; omega), many_none (by rw [q8]; omega), q8, errV_some (by omega)] at k8
  refine k8.mono ?_
  rintro e w8 ⟨v8, rfl, ho8, hb8⟩
  have kl := code_eql
  clear k8 q8 i8 hr8 hor
  go_wp2_with fail
  go_ret
  exact ⟨rfl, hbE.trans (hb8.mono hbE.size)⟩
end Go.Proofs.Ytiaaadeenbjciaa.Frame

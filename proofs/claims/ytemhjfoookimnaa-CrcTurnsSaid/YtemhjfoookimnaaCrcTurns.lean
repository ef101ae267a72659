/- CrcTurns holds for every slice of bytes, place and byte: the walk of the law; the shell that lifts it stands in its own text. -/
import Derived.Test.YtemhjfoookimnaaCrcSums
namespace Go.Proofs.Ytemhjfoookimnaa.Crc
open Go.Proofs.Ytemhjfoookimnaa.Mem
open Go.ChangeShapes Go.WideShapes Go.ChangeAt Go.RowKit
set_option linter.unusedVariables false

theorem sum_turned {xs : List Int} (hx : Bytes xs) {k : Nat} (hk : k < xs.length) {y : Int} (hy : 0 ≤ y ∧ y ≤ 255) (hne : y ≠ xs.getD k 0) : sumOf 0 xs ≠ sumOf 0 (xs.set k y) := by
  have e1 : xs = xs.take k ++ xs.getD k 0 :: xs.drop (k + 1) := by
    have : xs.getD k 0 = xs[k] := by simp [List.getD, hk]
    rw [this]; simp
  have e2 : xs.set k y = xs.take k ++ y :: xs.drop (k + 1) := by
    rw [List.set_eq_take_append_cons_drop, if_pos hk]
  rw [e2]
  intro h
  rw [e1] at h
  have hl : (xs.take k).length = k := by rw [List.length_take]; omega
  have t1 : (xs.take k ++ xs.getD k 0 :: xs.drop (k + 1)).take k = xs.take k := by rw [List.take_append_of_le_length (by omega), List.take_of_length_le (by omega)]
  have t2 : (xs.take k ++ xs.getD k 0 :: xs.drop (k + 1)).drop (k + 1) = xs.drop (k + 1) := by rw [← e1]
  rw [t1, t2] at h
  exact sumOf_ne (bytes_take hx k) (bytes_drop hx (k + 1)) (getD_byte hx hk) hy (fun e => hne e.symm) h
theorem xor_lt8 {a b : Nat} (ha : a < 256) (hb : b < 256) : a ^^^ b < 256 := Nat.xor_lt_two_pow (n := 8) ha hb
theorem xor_ne {c x : Nat} (hx : x ≠ 0) : c ^^^ x ≠ c := by
  intro h
  have h1 := xor_self_left c x
  rw [h, Nat.xor_self] at h1
  exact hx h1.symm

set_option maxHeartbeats 1000000 in
theorem turns_not (a0 : Option Addr) (len0 cap0 : Nat) (a1 a2 : Int) (w : World) (hm0 : len0 ≤ maxLen) (h : 3000 < len0 ∨ a1 < 0 ∨ (len0 : Int) ≤ a1 ∨ a2 = 0) :
    Calls Try.prog 5 #[.slice a0 len0 cap0, .int .i64 a1, .int .u8 a2] w fun e w' => e = .returned (.bool true) ∧ Below w.heap.size w w' := by
  unfold maxLen at hm0
  by_cases h0 : 3000 < len0
  · clear h
    go_enter Try.func5, Try.ntmps5
    go_wp2_with (go_at_call 6; refine (up_any _).mono ?_; rintro e w1 ⟨rfl, hb⟩)
    go_ret
    exact ⟨rfl, hb⟩
  by_cases h1 : a1 < 0
  · clear h
    go_enter Try.func5, Try.ntmps5
    go_wp2_with (go_at_call 6; refine (up_any _).mono ?_; rintro e w1 ⟨rfl, hb⟩)
    go_ret
    exact ⟨rfl, hb⟩
  by_cases h2 : (len0 : Int) ≤ a1
  · clear h
    go_enter Try.func5, Try.ntmps5
    go_wp2_with (go_at_call 6; refine (up_any _).mono ?_; rintro e w1 ⟨rfl, hb⟩)
    go_ret
    exact ⟨rfl, hb⟩
  · obtain rfl : a2 = 0 := by omega
    clear h
    go_enter Try.func5, Try.ntmps5
    go_wp2_with (go_at_call 6; refine (up_any _).mono ?_; rintro e w1 ⟨rfl, hb⟩)
    go_ret
    exact ⟨rfl, hb⟩

set_option maxHeartbeats 1000000 in
theorem turns_yes (a0 : Option Addr) (len0 cap0 k x : Nat) (xs : List Int) (w : World) (hx : Row w a0 len0 xs) (hn0 : a0 = none → cap0 = 0) (h0 : len0 ≤ 3000) (hk : k < len0) (hx0 : 0 < x) (hx8 : x < 256) :
    Calls Try.prog 5 #[.slice a0 len0 cap0, .int .i64 (k : Int), .int .u8 (x : Int)] w fun e w' => e = .returned (.bool true) ∧ Below w.heap.size w w' := by
  obtain ⟨i0, hi0, hz0, hz1, hz2⟩ := info_parts u8_info
  have HN0 := Lib.hid hn0
  clear hn0
  have hxz : ((x : Int) == 0) = false := by simp; omega
  go_enter Try.func5, Try.ntmps5
  go_wp2_with (first
    | (go_at_call 6; refine (up_any _).mono ?_; rintro e w1 ⟨rfl, hb⟩; have hx1 := hx.below hb; have hsz := hb.size)
    | (at_builtin
       refine wpList_append_sees rfl (.tmp 28) (.tmp 29) _ rfl w1.heap.size 5 i0 _ 1 1 Try.underlying22 hi0 hz0 hz1 hz2 rfl (by omega) (.slice (some ⟨w1.heap.size, 0, none⟩) 0 0) 0 [] rfl
         (World.ownsRow_made w1 #[] 0 (Nat.le_refl _) (by simp) (by simp)) (.slice a0 len0 cap0) len0 (cellsOf xs) rfl ((hx1.sees HN0.out).below ((Below.refl _ _).alloc (Nat.le_refl _) _)) (cellsOf_one xs) (by simp only [maxLen]; omega) (by omega) (by simp) ?_
       intro v1 w2 hown1 hg1
       have hb1 : Below w1.heap.size w1 w2 := ((Below.refl _ _).alloc (Nat.le_refl _) _).trans hg1
       have hown : w2.ownsRow w1.heap.size 5 1 v1 len0 (cellsOf xs) := by simpa using hown1
       obtain ⟨a2, cap2, hv2, hr2, hcm, hcn, hform⟩ := Row.of_own hown hx.2.1
       obtain ⟨g, ha2, hgb⟩ := hform (by omega)
       have hkx : k < xs.length := by rw [hx.1]; exact hk
       obtain ⟨c, hcb, hce⟩ : ∃ c : Nat, c < 256 ∧ xs.getD k 0 = (c : Int) := ⟨(xs.getD k 0).toNat, by have := getD_byte hx.2.1 hkx; omega, by have := getD_byte hx.2.1 hkx; omega⟩
       rw [ha2] at hv2
       rw [hv2] at hown
       have hc1 : w2.cell? ⟨g, k, none⟩ = some (.int .u8 (c : Int)) := by rw [hown.cellAt k (by omega), cellsOf_get hkx, hce]
       have hf1 : w2.frozen? ⟨g, k, none⟩ = false := hown.frozenAt k
       have hst := hown.stored k (.int .u8 ((c ^^^ x : Nat) : Int))
       rw [cellsOf_set] at hst
       have hy8 := xor_lt8 hcb hx8
       have hbs := bytes_set hx.2.1 k (y := ((c ^^^ x : Nat) : Int)) (by omega)
       have hxr := u8_xor_nat c x hcb hx8
       have hne := sum_turned hx.2.1 hkx (y := ((c ^^^ x : Nat) : Int)) (by omega) (by rw [hce]; intro e; exact xor_ne (c := c) (x := x) (by omega) (by omega))
       have HNE := Lib.hid hne
       have HST := Lib.hid hst
       have hx2 := hx1.below hb1
       have hfin : Below w.heap.size w w2 := hb.trans (hb1.mono hb.size)
       rw [hv2]
       clear hne hst hv2 hown hown1 hr2 hform ha2 hg1 hce))
  have hb3 := hb1.setCell (p := ⟨g, k, none⟩) hgb (.int .u8 ((c ^^^ x : Nat) : Int))
  have hx3 := hx1.below hb3
  obtain ⟨a3, cap3, hv3, hr3, -, -, -⟩ := Row.of_own HST.out.1 hbs
  injection hv3 with hv3 _ _
  subst hv3
  have hfin3 : Below w.heap.size w (w2.setCell ⟨g, k, none⟩ (.int .u8 ((c ^^^ x : Nat) : Int))) := hb.trans (hb3.mono hb.size)
  refine (sum_any _ _ _ xs _ hx3 (by omega)).mono ?_
  rintro e w' ⟨rfl, rfl⟩
  go_wp2_with fail
  refine (sum_any _ _ _ (xs.set k ((c ^^^ x : Nat) : Int)) _ hr3 (by omega)).mono ?_
  rintro e w' ⟨rfl, rfl⟩
  have hbool : ((((sumOf 0 xs : Nat) : Int)) != ((sumOf 0 (xs.set k ((c ^^^ x : Nat) : Int)) : Nat) : Int)) = true := by
    have := HNE.out
    simp only [bne_iff_ne, ne_eq]
    omega
  go_wp2_with fail
  go_ret
  exact ⟨rfl, hfin3⟩
end Go.Proofs.Ytemhjfoookimnaa.Crc

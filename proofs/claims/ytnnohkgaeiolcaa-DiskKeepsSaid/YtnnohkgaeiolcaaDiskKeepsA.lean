/- The walk of DiskKeeps where there is no room. -/
import Derived.Test.YtnnohkgaeiolcaaDiskKeeps
namespace Go.Proofs.Ytnnohkgaeiolcaa.Disk
open Go.Proofs.Ytnnohkgaeiolcaa.Mem
open Go.ChangeShapes Go.WideShapes Go.ChangeAt Go.RowKit
set_option linter.unusedVariables false
section
variable (c : Int) (a : Option Addr) (la ca : Nat) (b : Option Addr) (lb cb : Nat) (keep : Int) (l : Option Addr) (ll cl : Nat) (w : World)
set_option maxRecDepth 100000 in
set_option maxHeartbeats 2000000 in
theorem keeps_space1 (A : List Int) (hra : Row w a la A) (hna : a = none → ca = 0) (hla : la ≤ 1000) (hlb : lb ≤ 1000) (hll : ll ≤ 100) (hc : 0 ≤ c) (hs : c < (la : Int)) :
    Calls Try.prog 4 #[.int .i64 c, .slice a la ca, .slice b lb cb, .int .i64 keep, .slice l ll cl] w fun e w' => e = .returned (.bool true) ∧ Below w.heap.size w w' := by
  have t1 : decide (1000 < (la : Int)) = false := by simp; omega
  have t2 : decide (1000 < (lb : Int)) = false := by simp; omega
  have t3 : decide (100 < (ll : Int)) = false := by simp; omega
  have t4 : decide (c < 0) = false := by simpa using hc
  have t5 : decide (c < (la : Int) + (lb : Int)) = true := by simp; omega
  have u1 : (la : Int) ≤ 1000 := by omega
  have u2 : (lb : Int) ≤ 1000 := by omega
  have hlo : ∀ q, a = some q → 0 < la → q.block < w.heap.size := fun q hq hn => by
    obtain ⟨b', o', h1, h2, _⟩ := hra.2.2 hn
    rw [h1] at hq; injection hq with hq; subst hq; exact h2
  have HLO := Lib.hid hlo
  have HRA := Lib.hid hra
  have HC := Lib.hid hs
  clear hlo hra hs hla hlb hll hc
  go_enter Try.func4, Try.ntmps4
  go_wp2_with fail
  refine (up_any w).mono ?_
  rintro e w0 ⟨rfl, hb0⟩
  go_wp2_with fail
  refine (mine_new c w0 (B := w.heap.size) hb0.size).mono ?_
  rintro e w1 ⟨p, rfl, hM, hb⟩
  have hb := hb0.trans hb
  clear hb0
  go_wp2_with fail
  refine (k_create hM).mono ?_
  rintro e w2 ⟨rfl, hM2, hb2⟩
  have hb2 := hb.trans hb2
  clear hM hb
  go_wp2_with fail
  refine (k_full hM2 a la ca (HRA.out.below hb2) hna HLO.out (by simp only [List.length_nil]; omega) (by simp only [List.length_nil]; have := HC.out; omega)).mono ?_
  rintro e w3 ⟨rfl, hb3⟩
  have hb3 := hb2.trans hb3
  clear hM2 hb2
  go_wp2
  go_ret
  exact ⟨rfl, hb3⟩
set_option maxRecDepth 100000 in
set_option maxHeartbeats 2000000 in
theorem keeps_space2 (A Z : List Int) (hra : Row w a la A) (hna : a = none → ca = 0) (hrb : Row w b lb Z) (hnb : b = none → cb = 0) (hla : la ≤ 1000) (hlb : lb ≤ 1000) (hll : ll ≤ 100) (hc : 0 ≤ c) (hs : (la : Int) ≤ c) (hs2 : c < ((la + lb : Nat) : Int)) :
    Calls Try.prog 4 #[.int .i64 c, .slice a la ca, .slice b lb cb, .int .i64 keep, .slice l ll cl] w fun e w' => e = .returned (.bool true) ∧ Below w.heap.size w w' := by
  have t1 : decide (1000 < (la : Int)) = false := by simp; omega
  have t2 : decide (1000 < (lb : Int)) = false := by simp; omega
  have t3 : decide (100 < (ll : Int)) = false := by simp; omega
  have t4 : decide (c < 0) = false := by simpa using hc
  have t5 : decide (c < (la : Int) + (lb : Int)) = true := by simp; omega
  have u1 : (la : Int) ≤ 1000 := by omega
  have u2 : (lb : Int) ≤ 1000 := by omega
  have hlo : ∀ q, a = some q → 0 < la → q.block < w.heap.size := fun q hq hn => by
    obtain ⟨b', o', h1, h2, _⟩ := hra.2.2 hn
    rw [h1] at hq; injection hq with hq; subst hq; exact h2
  have hlob : ∀ q, b = some q → 0 < lb → q.block < w.heap.size := fun q hq hn => by
    obtain ⟨b', o', h1, h2, _⟩ := hrb.2.2 hn
    rw [h1] at hq; injection hq with hq; subst hq; exact h2
  have HLO := Lib.hid hlo
  have HLOB := Lib.hid hlob
  have HRA := Lib.hid hra
  have HRB := Lib.hid hrb
  have HAL := Lib.hid hra.1
  have HC := Lib.hid hs
  have HC2 := Lib.hid hs2
  clear hlo hlob hra hrb hs hs2 hla hlb hll hc
  go_enter Try.func4, Try.ntmps4
  go_wp2_with fail
  refine (up_any w).mono ?_
  rintro e w0 ⟨rfl, hb0⟩
  go_wp2_with fail
  refine (mine_new c w0 (B := w.heap.size) hb0.size).mono ?_
  rintro e w1 ⟨p, rfl, hM, hb⟩
  have hb := hb0.trans hb
  clear hb0
  go_wp2_with fail
  refine (k_create hM).mono ?_
  rintro e w2 ⟨rfl, hM2, hb2⟩
  have hb2 := hb.trans hb2
  clear hM hb
  go_wp2_with fail
  refine (k_append hM2 a la ca (HRA.out.below hb2) hna HLO.out (by simp only [List.length_nil]; omega) (by simp only [List.length_nil]; have := HC.out; omega)).mono ?_
  rintro e w3 ⟨rfl, hM3, hb3⟩
  have hb3 := hb2.trans hb3
  clear hM2 hb2
  go_wp2_with fail
  refine (k_sync hM3 (by simp only [List.nil_append]; rw [HAL.out]; omega)).mono ?_
  rintro e w4 ⟨rfl, hM4, hb4⟩
  have hb4 := hb3.trans hb4
  clear hM3 hb3
  go_wp2_with fail
  refine (k_full hM4 b lb cb (HRB.out.below hb4) hnb HLOB.out (by simp only [List.nil_append]; rw [HAL.out]; omega) (by simp only [List.nil_append]; rw [HAL.out]; exact HC2.out)).mono ?_
  rintro e w5 ⟨rfl, hb5⟩
  have hb5 := hb4.trans hb5
  clear hM4 hb4
  go_wp2
  go_ret
  exact ⟨rfl, hb5⟩
end
end Go.Proofs.Ytnnohkgaeiolcaa.Disk

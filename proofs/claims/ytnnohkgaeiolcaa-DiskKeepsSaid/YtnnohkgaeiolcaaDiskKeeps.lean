/- The walk of DiskKeeps. -/
import Derived.Test.YtnnohkgaeiolcaaDiskKept
namespace Go.Proofs.Ytnnohkgaeiolcaa.Disk
open Go.Proofs.Ytnnohkgaeiolcaa.Mem
open Go.ChangeShapes Go.WideShapes Go.ChangeAt Go.RowKit
set_option linter.unusedVariables false
section
variable (c : Int) (a : Option Addr) (la ca : Nat) (b : Option Addr) (lb cb : Nat) (keep : Int) (l : Option Addr) (ll cl : Nat) (w : World)
set_option maxRecDepth 100000 in
set_option maxHeartbeats 2000000 in
theorem keeps_long (h1 : la ≤ 9223372036854775807) (h2 : lb ≤ 9223372036854775807) (h3 : ll ≤ 9223372036854775807) (h : 1000 < la ∨ 1000 < lb ∨ 100 < ll ∨ c < 0) :
    Calls Try.prog 4 #[.int .i64 c, .slice a la ca, .slice b lb cb, .int .i64 keep, .slice l ll cl] w fun e w' => e = .returned (.bool true) ∧ Below w.heap.size w w' := by
  obtain ⟨LA, hLA⟩ : ∃ LA : Int, (la : Int) = LA := ⟨_, rfl⟩
  obtain ⟨LB, hLB⟩ : ∃ LB : Int, (lb : Int) = LB := ⟨_, rfl⟩
  obtain ⟨LL, hLL⟩ : ∃ LL : Int, (ll : Int) = LL := ⟨_, rfl⟩
  have hc : 1000 < LA ∨ 1000 < LB ∨ 100 < LL ∨ c < 0 := by omega
  clear h1 h2 h3 h
  go_enter Try.func4, Try.ntmps4
  go_wp2_with fail
  refine (up_any w).mono ?_
  rintro e w0 ⟨rfl, hb0⟩
  by_cases t1 : 1000 < LA
  · have t1' : decide (1000 < LA) = true := by simpa using t1
    clear hc t1
    go_wp2
    go_ret
    exact ⟨rfl, hb0⟩
  · have t1' : decide (1000 < LA) = false := by simpa using t1
    by_cases t2 : 1000 < LB
    · have t2' : decide (1000 < LB) = true := by simpa using t2
      clear hc t1 t2
      go_wp2
      go_ret
      exact ⟨rfl, hb0⟩
    · have t2' : decide (1000 < LB) = false := by simpa using t2
      by_cases t3 : 100 < LL
      · have t3' : decide (100 < LL) = true := by simpa using t3
        clear hc t1 t2 t3
        go_wp2
        go_ret
        exact ⟨rfl, hb0⟩
      · have t3' : decide (100 < LL) = false := by simpa using t3
        have t4' : decide (c < 0) = true := by simp; omega
        clear hc t1 t2 t3
        go_wp2
        go_ret
        exact ⟨rfl, hb0⟩
end
end Go.Proofs.Ytnnohkgaeiolcaa.Disk

/- DiskKeeps, at every input. -/
import Derived.Test.YtnnohkgaeiolcaaDiskKeepsC
import Derived.Test.YtnnohkgaeiolcaaDiskKeepsD
import Derived.Test.YtnnohkgaeiolcaaDiskKeepsE
import Derived.Test.YtnnohkgaeiolcaaDiskKeepsF
namespace Go.Proofs.Ytnnohkgaeiolcaa.Disk
open Go.Proofs.Ytnnohkgaeiolcaa.Mem
open Go.RowKit
set_option linter.unusedVariables false
theorem keeps_any (c : Int) (a : Option Addr) (la ca : Nat) (b : Option Addr) (lb cb : Nat) (keep : Int) (l : Option Addr) (ll cl : Nat) (w : World) (A Z : List Int) (hra : Row w a la A) (hna : a = none → ca = 0) (hrb : Row w b lb Z) (hnb : b = none → cb = 0)
    (hla : la ≤ 9223372036854775807) (hlcb : lb ≤ cb) (hcbm : cb ≤ 9223372036854775807) (hll : ll ≤ 9223372036854775807) (hkm : keep ≤ 9223372036854775807) (hds : Deeds w w.heap.size l ll) :
    Calls Try.prog 4 #[.int .i64 c, .slice a la ca, .slice b lb cb, .int .i64 keep, .slice l ll cl] w fun e w' => e = .returned (.bool true) ∧ Below w.heap.size w w' := by
  by_cases h : 1000 < la ∨ 1000 < lb ∨ 100 < ll ∨ c < 0
  · exact keeps_long c a la ca b lb cb keep l ll cl w hla (by omega) hll h
  · by_cases h1 : c < (la : Int)
    · exact keeps_space1 c a la ca b lb cb keep l ll cl w A hra hna (by omega) (by omega) (by omega) (by omega) h1
    · by_cases h2 : c < ((la + lb : Nat) : Int)
      · exact keeps_space2 c a la ca b lb cb keep l ll cl w A Z hra hna hrb hnb (by omega) (by omega) (by omega) (by omega) (by omega) h2
      · by_cases h3 : keep ≤ 0
        · rcases hb : b with _ | x0
          · have hc0 : cb = 0 := hnb hb
            rw [← hb]
            exact keeps_zero_nil c a la ca b lb cb keep l ll cl w A Z hra hna hrb hnb (by omega) (by omega) (by omega) (by omega) (by omega) hds hkm hlcb hcbm (by omega) (by omega) h3 hb (by omega) hc0
          · rw [← hb]
            exact keeps_zero c a la ca b lb cb keep l ll cl w A Z x0 hra hna hrb hnb (by omega) (by omega) (by omega) (by omega) (by omega) hds hkm hlcb hcbm (by omega) (by omega) h3 hb
        · by_cases h4 : (lb : Int) < keep
          · rcases hb : b with _ | x0
            · have hc0 : cb = 0 := hnb hb
              rw [← hb]
              exact keeps_all_nil c a la ca b lb cb keep l ll cl w A Z hra hna hrb hnb (by omega) (by omega) (by omega) (by omega) (by omega) hds hkm hlcb hcbm (by omega) (by omega) (by omega) hb (by omega) hc0
            · rw [← hb]
              exact keeps_all c a la ca b lb cb keep l ll cl w A Z x0 hra hna hrb hnb (by omega) (by omega) (by omega) (by omega) (by omega) hds hkm hlcb hcbm (by omega) (by omega) (by omega) h4 hb
          · obtain ⟨n, rfl⟩ := Int.eq_ofNat_of_zero_le (show 0 ≤ keep by omega)
            exact keeps_some c a la ca b lb cb l ll cl w A Z n hra hna hrb hnb (by omega) (by omega) (by omega) (by omega) (by omega) hds hkm hlcb hcbm (by omega) (by omega) (by omega)
end Go.Proofs.Ytnnohkgaeiolcaa.Disk

/- Whether a record may be: the walks of record.May. -/
import Derived.Test.YtgjofinbdigmcaaRecMayA
import Derived.Test.YtgjofinbdigmcaaRecMayB
import Derived.Test.YtgjofinbdigmcaaRecMayC
namespace Go.Proofs.Ytgjofinbdigmcaa.Rec
open Go.Proofs.Ytgjofinbdigmcaa.Mem Go.Proofs.Ytgjofinbdigmcaa.Pack
open Go.ChangeShapes Go.WideShapes Go.ChangeAt Go.RowKit
set_option linter.unusedVariables false
set_option linter.unusedSimpArgs false

theorem may_any (r : Rcd) (w : World) : Calls Try.prog 19 #[rv r] w fun e w' => e = .returned (.bool (decide (May r))) ∧ Below w.heap.size w w' := by
  by_cases hr : r = named r
  rotate_left
  · rw [decide_eq_false (fun h : May r => hr h.2.2.2.2.2.1)]
    exact may_neq r hr w
  by_cases h0 : 0 ≤ r.bucket
  rotate_left
  · rw [decide_eq_false (fun h : May r => h0 h.2.2.1)]
    exact may_low r hr (by omega) w
  by_cases h1 : r.bucket < 64
  rotate_left
  · rw [decide_eq_false (fun h : May r => h1 h.2.2.2.1)]
    exact may_high r hr h0 (by omega) w
  by_cases h2 : 1 ≤ r.gen
  rotate_left
  · rw [decide_eq_false (fun h : May r => h2 h.2.2.2.2.1)]
    exact may_gen r hr h0 h1 (by omega) w
  have hk : 1 ≤ r.kind ∧ r.kind ≤ 7 := by
    rcases Int.lt_or_le r.kind 1 with h | h
    · exfalso
      have e : named r = zero := by
        unfold named
        rw [if_neg (by omega), if_neg (by omega), if_neg (by omega), if_neg (by omega), if_neg (by omega), if_neg (by omega)]
      rw [e] at hr
      rw [hr] at h2
      exact absurd h2 (by decide)
    · rcases Int.lt_or_le 7 r.kind with h' | h'
      · exfalso
        have e : named r = zero := by
          unfold named
          rw [if_neg (by omega), if_neg (by omega), if_neg (by omega), if_neg (by omega), if_neg (by omega), if_neg (by omega)]
        rw [e] at hr
        rw [hr] at h2
        exact absurd h2 (by decide)
      · exact ⟨h, h'⟩
  have e : decide (May r) = decide (fits r) := by
    rw [Bool.eq_iff_iff, decide_eq_true_iff, decide_eq_true_iff]
    exact ⟨fun h => h.2.2.2.2.2.2, fun h => ⟨hk.1, hk.2, h0, h1, h2, hr, h⟩⟩
  rw [e]
  exact may_pass r hr h0 h1 h2 hk w
end Go.Proofs.Ytgjofinbdigmcaa.Rec

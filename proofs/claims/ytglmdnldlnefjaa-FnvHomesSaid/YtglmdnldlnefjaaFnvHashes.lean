/- FnvHashes: the head of layer 3's statements, and the walk of the law. -/
import Derived.Test.YtglmdnldlnefjaaFnvWalks
namespace Go.Proofs.Ytglmdnldlnefjaa.Fnv
open Go.Proofs.Ytglmdnldlnefjaa.Mem
open Go.ChangeShapes Go.WideShapes Go.ChangeAt Go.RowKit
set_option linter.unusedVariables false

theorem not_pow3 : ¬ Pow 3 := by
  rintro ⟨k, _, h⟩
  have h : 2 ^ k = 3 := by omega
  rcases k with _ | k
  · simp at h
  · rw [Nat.pow_succ] at h; omega
theorem pow8 : Pow 8 := ⟨3, by omega, rfl⟩
theorem up_any (w : World) :
    Calls Try.prog 5 #[] w fun e w' => e = .returned (.bool true) ∧ w = w' := by
  go_enter Try.func5, Try.ntmps5
  go_wp2_with fail
  refine (hash_any _ (by decide) w).mono ?_
  rintro e w' ⟨rfl, rfl⟩
  rw [hashOf_nil]
  go_wp2_with fail
  refine (home_no _ (by omega) (by omega) not_pow3 w).mono ?_
  rintro e w' ⟨rfl, rfl⟩
  go_wp2_with fail
  refine (home_yes _ (by decide) pow8 w).mono ?_
  rintro e w' ⟨rfl, rfl⟩
  have h5 : homeOf { data := #[] } 8 = 5 := by
    unfold homeOf
    rw [hashOf_nil]
    decide
  rw [h5]
  go_wp2_with fail
  go_ret
  exact ⟨rfl, rfl⟩
theorem hashes_long (s : ByteArray) (p : Int) (hs : 3000 < s.size) (hs2 : s.size ≤ 9223372036854775807) (w : World) :
    Calls Try.prog 3 #[.string s, .int .i64 p] w fun e w' => e = .returned (.bool true) ∧ w = w' := by
  go_enter Try.func3, Try.ntmps3
  go_wp2_with fail
  refine (up_any w).mono ?_
  rintro e w' ⟨rfl, rfl⟩
  go_wp2_with fail
  go_ret
  exact ⟨rfl, rfl⟩
theorem hashes_short (s : ByteArray) (p : Int) (hs : s.size ≤ 3000) (h0 : -9223372036854775808 ≤ p) (h9 : p ≤ 9223372036854775807) (w : World) :
    Calls Try.prog 3 #[.string s, .int .i64 p] w fun e w' => e = .returned (.bool true) ∧ w = w' := by
  by_cases hp : Pow p
  · have HP := Lib.hid hp
    clear hp
    go_enter Try.func3, Try.ntmps3
    go_wp2_with fail
    refine (up_any w).mono ?_
    rintro e w' ⟨rfl, rfl⟩
    go_wp2_with fail
    refine (hash_any s (by omega) w).mono ?_
    rintro e w' ⟨rfl, rfl⟩
    go_wp2_with fail
    refine (refHash_any s (by omega) w).mono ?_
    rintro e w' ⟨rfl, rfl⟩
    go_wp2_with fail
    refine (home_yes s (by omega) HP.out w).mono ?_
    rintro e w' ⟨rfl, rfl⟩
    go_wp2_with fail
    refine (refHome_yes s (by omega) HP.out w).mono ?_
    rintro e w' ⟨rfl, rfl⟩
    go_wp2_with fail
    go_ret
    exact ⟨rfl, rfl⟩
  · have HP := Lib.hid hp
    clear hp
    go_enter Try.func3, Try.ntmps3
    go_wp2_with fail
    refine (up_any w).mono ?_
    rintro e w' ⟨rfl, rfl⟩
    go_wp2_with fail
    refine (hash_any s (by omega) w).mono ?_
    rintro e w' ⟨rfl, rfl⟩
    go_wp2_with fail
    refine (refHash_any s (by omega) w).mono ?_
    rintro e w' ⟨rfl, rfl⟩
    go_wp2_with fail
    refine (home_no s h0 h9 HP.out w).mono ?_
    rintro e w' ⟨rfl, rfl⟩
    go_wp2_with fail
    refine (refHome_no s h0 h9 HP.out w).mono ?_
    rintro e w' ⟨rfl, rfl⟩
    go_wp2_with fail
    go_ret
    exact ⟨rfl, rfl⟩
end Go.Proofs.Ytglmdnldlnefjaa.Fnv

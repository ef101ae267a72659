/- A byte that is changed changes the sum (CrcTurns has this too: import that or this). -/
import Derived.Test.YtiaaadeenbjciaaCrcMath
namespace Go.Proofs.Ytiaaadeenbjciaa.Crc
open Go.Proofs.Ytiaaadeenbjciaa.Mem
open Go.RowKit
set_option linter.unusedVariables false

theorem sum_turned {xs : List Int} (hx : Bytes xs) {k : Nat} (hk : k < xs.length) {y : Int} (hy : 0 ≤ y ∧ y ≤ 255) (hne : y ≠ xs.getD k 0) : sumOf 0 xs ≠ sumOf 0 (xs.set k y) := by
  have e1 : xs = xs.take k ++ xs.getD k 0 :: xs.drop (k + 1) := by
    have : xs.getD k 0 = xs[k] := by simp [List.getD, hk]
    rw [this]; simp
  have e2 : xs.set k y = xs.take k ++ y :: xs.drop (k + 1) := by
    rw [List.set_eq_take_append_cons_drop, if_pos hk]
  rw [e2]
  intro h
  rw [e1] at h
  have hl : (xs.take k).length = k := by rw [List.length_take]; omega
  have t1 : (xs.take k ++ xs.getD k 0 :: xs.drop (k + 1)).take k = xs.take k := by rw [List.take_append_of_le_length (by omega), List.take_of_length_le (by omega)]
  have t2 : (xs.take k ++ xs.getD k 0 :: xs.drop (k + 1)).drop (k + 1) = xs.drop (k + 1) := by rw [← e1]
  rw [t1, t2] at h
  exact sumOf_ne (bytes_take hx k) (bytes_drop hx (k + 1)) (getD_byte hx hk) hy (fun e => hne e.symm) h
theorem xor_lt8 {a b : Nat} (ha : a < 256) (hb : b < 256) : a ^^^ b < 256 := Nat.xor_lt_two_pow (n := 8) ha hb
theorem xor_ne {c x : Nat} (hx : x ≠ 0) : c ^^^ x ≠ c := by
  intro h
  have h1 := xor_self_left c x
  rw [h, Nat.xor_self] at h1
  exact hx h1.symm
end Go.Proofs.Ytiaaadeenbjciaa.Crc

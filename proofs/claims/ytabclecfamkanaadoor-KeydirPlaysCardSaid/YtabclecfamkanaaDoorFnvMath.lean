/- Plain mathematics of the hash of layer 3: what a byte makes of a hash, the hash of a text, and powers of 2 up to 2^30. -/
import Derived.Laws.BitsAllLaws
import Derived.Test.YtabclecfamkanaaDoorOwn
namespace Go.Proofs.YtabclecfamkanaaDoor.Fnv
open Go.Proofs.YtabclecfamkanaaDoor.Mem

def stepOf (r : Nat) (z : Int) : Nat := (r ^^^ z.toNat) * 1099511628211 % 18446744073709551616
def come (r : Nat) (zs : List Int) : Nat := zs.foldl stepOf r
/- The hash of a text. -/
def hashOf (s : ByteArray) : Nat := come 14695981039346656037 (strBytes s)
theorem stepOf_lt (r : Nat) (z : Int) : stepOf r z < 18446744073709551616 := Nat.mod_lt _ (by omega)
theorem come_lt {r : Nat} (hr : r < 18446744073709551616) (zs : List Int) : come r zs < 18446744073709551616 := by
  induction zs generalizing r with
  | nil => exact hr
  | cons z zs ih => exact ih (stepOf_lt r z)
theorem foldl_snoc {α β : Type} (f : β → α → β) (r : β) (zs : List α) (z : α) : (zs ++ [z]).foldl f r = f (zs.foldl f r) z := by
  rw [List.foldl_append]
  rfl
theorem come_snoc (r : Nat) (zs : List Int) (z : Int) : come r (zs ++ [z]) = stepOf (come r zs) z := foldl_snoc stepOf r zs z
theorem hashOf_lt (s : ByteArray) : hashOf s < 18446744073709551616 := come_lt (by omega) _
theorem hashOf_nil : hashOf { data := #[] } = 14695981039346656037 := rfl
theorem xor_lt64 {a b : Nat} (ha : a < 18446744073709551616) (hb : b < 18446744073709551616) : a ^^^ b < 18446744073709551616 := Nat.xor_lt_two_pow (n := 64) ha hb
theorem strBytes_take (T : ByteArray) (j : Nat) (h : j < T.size) : (strBytes T).take (j + 1) = (strBytes T).take j ++ [((T[j]).toNat : Int)] := by
  have hl : j < (strBytes T).length := by rw [strBytes_length]; exact h
  rw [List.take_succ_eq_append_getElem hl]
  have e : (strBytes T)[j]'hl = ((T[j]).toNat : Int) := (List.getElem_map (f := fun b : UInt8 => (b.toNat : Int)) (l := T.data.toList) (i := j) (h := hl)).trans rfl
  rw [e]
theorem strBytes_all (T : ByteArray) {j : Nat} (h : ¬ j < T.size) : (strBytes T).take j = strBytes T := List.take_of_length_le (by rw [strBytes_length]; omega)
theorem come_step (r : Nat) (T : ByteArray) {j : Nat} (h : j < T.size) : come r ((strBytes T).take (j + 1)) = (come r ((strBytes T).take j) ^^^ (T[j]).toNat) * 1099511628211 % 18446744073709551616 := by
  rw [strBytes_take T j h, come_snoc]
  rfl
/- A power of 2 that may be places. -/
def Pow (p : Int) : Prop := ∃ k : Nat, k ≤ 30 ∧ p = ((2 ^ k : Nat) : Int)
theorem pow_le {k : Nat} (h : k ≤ 30) : 1 ≤ 2 ^ k ∧ 2 ^ k ≤ 1073741824 :=
  ⟨Nat.one_le_two_pow, Nat.le_trans (Nat.pow_le_pow_right (by omega) h) (by decide)⟩
theorem pow_and (k : Nat) : (2 ^ k) &&& (2 ^ k - 1) = 0 := by
  rw [Nat.and_two_pow_sub_one_eq_mod, Nat.mod_self]
theorem pow_of_and {n : Nat} (h0 : n ≠ 0) (hn : n ≤ 1073741824) (h : n &&& (n - 1) = 0) : Pow (n : Int) := by
  obtain ⟨k, rfl⟩ := (Nat.and_sub_one_eq_zero_iff_isPowerOfTwo h0).1 h
  refine ⟨k, ?_, rfl⟩
  have : 2 ^ k ≤ 2 ^ 30 := hn
  exact (Nat.pow_le_pow_iff_right (by omega)).1 this
theorem ofInt_i64 (a : Nat) (ha : a < 9223372036854775808) : (BitVec.ofInt 64 (a : Int)).toNat = a := by
  rw [BitVec.ofInt_natCast, BitVec.toNat_ofNat]; exact Nat.mod_eq_of_lt (by omega)
theorem i64_and_nat (a b : Nat) (ha : a < 9223372036854775808) (hb : b < 9223372036854775808) : bits .and .i64 (a : Int) (b : Int) = ((a &&& b : Nat) : Int) := by
  have hx : a &&& b < 2 ^ 63 := Nat.and_lt_two_pow _ (by omega)
  show IntKind.i64.wrap ((BitVec.ofInt 64 (a : Int) &&& BitVec.ofInt 64 (b : Int)).toNat : Int) = _
  rw [BitVec.toNat_and, ofInt_i64 a ha, ofInt_i64 b hb]
  simp [IntKind.wrap, IntKind.signed, IntKind.bits]
  omega
end Go.Proofs.YtabclecfamkanaaDoor.Fnv

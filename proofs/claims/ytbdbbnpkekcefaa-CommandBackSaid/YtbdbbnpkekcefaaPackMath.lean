/- Numbers as bytes, the lowest byte first: what is put, what is read, and that what was put is read. -/
import Derived.Test.YtbdbbnpkekcefaaOwn
namespace Go.Proofs.Ytbdbbnpkekcefaa.Pack
open Go.Proofs.Ytbdbbnpkekcefaa.Mem
set_option linter.unusedVariables false

def put (n : Nat) : Nat → List Int
  | 0 => []
  | k + 1 => ((n % 256 : Nat) : Int) :: put (n / 256) k
def num : List Int → Nat
  | [] => 0
  | z :: zs => z.toNat + 256 * num zs
theorem put_length (n k : Nat) : (put n k).length = k := by
  induction k generalizing n with
  | zero => rfl
  | succ k ih => simp [put, ih]
theorem put_bytes (n k : Nat) : Bytes (put n k) := by
  induction k generalizing n with
  | zero => exact bytes_nil
  | succ k ih =>
    intro z hz
    rcases List.mem_cons.mp hz with rfl | h
    · omega
    · exact ih _ z h
theorem num_put (n k : Nat) : num (put n k) = n % 256 ^ k := by
  induction k generalizing n with
  | zero => simp [put, num, Nat.mod_one]
  | succ k ih =>
    simp only [put, num, ih]
    rw [Nat.pow_succ, Nat.mul_comm (256 ^ k) 256, Nat.mod_mul]
    omega
theorem num_append (xs ys : List Int) : num (xs ++ ys) = num xs + 256 ^ xs.length * num ys := by
  induction xs with
  | nil => simp [num]
  | cons x xs ih => rw [List.cons_append, num, num, ih, List.length_cons, Nat.pow_succ, Nat.mul_comm (256 ^ xs.length) 256, Nat.mul_assoc, Nat.mul_add]; omega
theorem num_lt {zs : List Int} (h : Bytes zs) : num zs < 256 ^ zs.length := by
  induction zs with
  | nil => simp [num]
  | cons z zs ih =>
    have h1 := h z (List.mem_cons_self ..)
    have h2 := ih (fun x hx => h x (List.mem_cons_of_mem _ hx))
    rw [num, List.length_cons, Nat.pow_succ]
    omega
theorem num_snoc (zs : List Int) (k : Nat) (h : k < zs.length) : num (zs.take (k + 1)) = num (zs.take k) + 256 ^ k * (zs.getD k 0).toNat := by
  rw [take_snoc zs k h, num_append]
  simp [num, List.length_take, Nat.min_eq_left (Nat.le_of_lt h)]
theorem num_cons (zs : List Int) (k : Nat) (h : k < zs.length) : num (zs.drop k) = (zs.getD k 0).toNat + 256 * num (zs.drop (k + 1)) := by
  rw [List.drop_eq_getElem_cons h, num]
  simp [List.getD, h]
theorem pow256_le {k m : Nat} (h : k ≤ m) : 256 ^ k ≤ 256 ^ m := Nat.pow_le_pow_right (by omega) h
/- The text of so many bytes at most. -/
def txt (zs : List Int) : List Int := put (zs.take 65535).length 2 ++ zs.take 65535
/- What a reader's call answers, and what it leaves: the bytes that are left, and whether it is short. -/
def canTake (zs : List Int) (k : Nat) : Prop := k ≤ zs.length
def left (zs : List Int) (k : Nat) : List Int := if k ≤ zs.length then zs.drop k else []
def got (zs : List Int) (k : Nat) : List Int := if k ≤ zs.length then zs.take k else []
def shortBy (zs : List Int) (k : Nat) (s : Bool) : Bool := if k ≤ zs.length then s else true
theorem left_bytes {zs : List Int} (h : Bytes zs) (k : Nat) : Bytes (left zs k) := by
  unfold left
  split
  · exact bytes_drop h k
  · exact bytes_nil
theorem got_bytes {zs : List Int} (h : Bytes zs) (k : Nat) : Bytes (got zs k) := by
  unfold got
  split
  · exact bytes_take h k
  · exact bytes_nil
theorem left_length_le (zs : List Int) (k : Nat) : (left zs k).length ≤ zs.length := by
  unfold left
  split
  · simp
  · simp
theorem got_length_le (zs : List Int) (k : Nat) : (got zs k).length ≤ k := by
  unfold got
  split
  · simp; omega
  · simp
theorem num_got_lt {zs : List Int} (h : Bytes zs) {k : Nat} (hk : k ≤ 8) : num (got zs k) < 18446744073709551616 := by
  have h1 := num_lt (got_bytes h k)
  have h2 : 256 ^ (got zs k).length ≤ 256 ^ 8 := pow256_le (Nat.le_trans (got_length_le zs k) hk)
  have h3 : (256 : Nat) ^ 8 = 18446744073709551616 := by decide
  omega
theorem num_got2_lt {zs : List Int} (h : Bytes zs) : num (got zs 2) < 65536 := by
  have h1 := num_lt (got_bytes h 2)
  have h2 : 256 ^ (got zs 2).length ≤ 256 ^ 2 := pow256_le (got_length_le zs 2)
  have h3 : (256 : Nat) ^ 2 = 65536 := by decide
  omega
end Go.Proofs.Ytbdbbnpkekcefaa.Pack

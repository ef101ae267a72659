/- Plain mathematics of the sum of layer 1: shifting a register of 32 bits is linear and one-to-one, so the bitwise sum is the bytewise one, and a byte that is changed changes the sum. No condition but that registers are below 2^32. -/
import Derived.Laws.BitsAllLaws
import Derived.Test.YtgfhcbdhggnbaaaMem
namespace Go.Proofs.Ytgfhcbdhggnbaaa.Crc
open Go.Proofs.Ytgfhcbdhggnbaaa.Mem

def sh (n : Nat) : Nat := if n % 2 = 1 then n / 2 ^^^ 3988292384 else n / 2
def shN : Nat → Nat → Nat
  | 0, n => n
  | k + 1, n => sh (shN k n)
def upd (r : Nat) (z : Int) : Nat := shN 8 (r ^^^ z.toNat)
def come (r : Nat) (zs : List Int) : Nat := zs.foldl upd r
def rb : Nat → Nat → Nat → Nat
  | 0, r, _ => r
  | k + 1, r, c => sh (rb k r c ^^^ (c / 2 ^ k % 2))
def neg32 (n : Nat) : Nat := 4294967295 - n
def sumOf (s : Nat) (zs : List Int) : Nat := neg32 (come (neg32 s) zs)

theorem xor_lt32 {a b : Nat} (ha : a < 4294967296) (hb : b < 4294967296) : a ^^^ b < 4294967296 :=
  Nat.xor_lt_two_pow (n := 32) ha hb
theorem sh_lt {n : Nat} (h : n < 4294967296) : sh n < 4294967296 := by
  unfold sh
  split
  · exact xor_lt32 (by omega) (by omega)
  · omega
theorem shN_lt {n : Nat} (k : Nat) (h : n < 4294967296) : shN k n < 4294967296 := by
  induction k with
  | zero => exact h
  | succ k ih => exact sh_lt ih
theorem neg32_lt (n : Nat) : neg32 n < 4294967296 := by unfold neg32; omega
theorem neg32_neg32 {n : Nat} (h : n < 4294967296) : neg32 (neg32 n) = n := by unfold neg32; omega
theorem neg32_inj {a b : Nat} (ha : a < 4294967296) (hb : b < 4294967296) (h : neg32 a = neg32 b) : a = b := by unfold neg32 at h; omega
theorem upd_lt {r : Nat} {z : Int} (hr : r < 4294967296) (hz : z ≤ 255) : upd r z < 4294967296 :=
  shN_lt 8 (xor_lt32 hr (by omega))
theorem come_lt {r : Nat} {zs : List Int} (hr : r < 4294967296) (hz : Bytes zs) : come r zs < 4294967296 := by
  induction zs generalizing r with
  | nil => exact hr
  | cons z zs ih =>
    exact ih (upd_lt hr (hz z (by simp)).2) (fun y hy => hz y (by simp [hy]))
theorem come_append (r : Nat) (xs ys : List Int) : come r (xs ++ ys) = come (come r xs) ys := by
  unfold come; rw [List.foldl_append]
theorem come_snoc (r : Nat) (xs : List Int) (z : Int) : come r (xs ++ [z]) = upd (come r xs) z := by
  rw [come_append]; rfl

theorem xor_par (a b : Nat) : (a ^^^ b) % 2 = (a + b) % 2 := by
  have h : (a ^^^ b) % 2 = a % 2 ^^^ b % 2 := Nat.xor_mod_two_pow (n := 1)
  rw [h, Nat.add_mod]
  rcases Nat.mod_two_eq_zero_or_one a with ha | ha <;> rcases Nat.mod_two_eq_zero_or_one b with hb | hb <;> rw [ha, hb] <;> decide
theorem xor_half (a b : Nat) : (a ^^^ b) / 2 = a / 2 ^^^ b / 2 := Nat.xor_div_two
theorem sh_xor (a b : Nat) : sh (a ^^^ b) = sh a ^^^ sh b := by
  unfold sh
  rw [xor_par, xor_half]
  rcases Nat.mod_two_eq_zero_or_one a with ha | ha <;> rcases Nat.mod_two_eq_zero_or_one b with hb | hb
  · rw [if_neg (by omega), if_neg (by omega), if_neg (by omega)]
  · rw [if_pos (by omega), if_neg (by omega), if_pos (by omega), Nat.xor_assoc]
  · rw [if_pos (by omega), if_pos (by omega), if_neg (by omega), Nat.xor_assoc, Nat.xor_assoc, Nat.xor_comm (b / 2)]
  · rw [if_neg (by omega), if_pos (by omega), if_pos (by omega), Nat.xor_assoc, Nat.xor_comm 3988292384, Nat.xor_assoc, Nat.xor_self, Nat.xor_zero]
theorem sh_even {n : Nat} (h : n % 2 = 0) : sh n = n / 2 := by unfold sh; rw [if_neg (by omega)]
theorem sh_split (a y : Nat) : sh (a ^^^ y) = sh (a ^^^ y % 2) ^^^ y / 2 := by
  have e : y = y % 2 ^^^ (y - y % 2) := by
    apply Nat.eq_of_testBit_eq
    intro i
    cases i with
    | zero =>
      rw [Nat.testBit_zero, Nat.testBit_zero, xor_par]
      congr 1
      have : (y % 2 + (y - y % 2)) % 2 = y % 2 := by omega
      rw [this]
    | succ i =>
      rw [Nat.testBit_succ, Nat.testBit_succ, xor_half]
      have h1 : y % 2 / 2 = 0 := by omega
      have h2 : (y - y % 2) / 2 = y / 2 := by omega
      rw [h1, h2, Nat.zero_xor]
  have h3 : sh (y - y % 2) = y / 2 := by rw [sh_even (by omega)]; omega
  calc sh (a ^^^ y) = sh ((a ^^^ y % 2) ^^^ (y - y % 2)) := by rw [Nat.xor_assoc, ← e]
    _ = sh (a ^^^ y % 2) ^^^ y / 2 := by rw [sh_xor, h3]
theorem rb_xor (k r c : Nat) : rb k r c ^^^ c / 2 ^ k = shN k (r ^^^ c) := by
  induction k with
  | zero => simp [rb, shN]
  | succ k ih =>
    show sh (rb k r c ^^^ (c / 2 ^ k % 2)) ^^^ c / 2 ^ (k + 1) = sh (shN k (r ^^^ c))
    rw [← ih, sh_split (rb k r c) (c / 2 ^ k), Nat.pow_succ, Nat.div_div_eq_div_mul]
theorem rb8 (r c : Nat) (h : c < 256) : rb 8 r c = shN 8 (r ^^^ c) := by
  have e := rb_xor 8 r c
  have : c / 2 ^ 8 = 0 := Nat.div_eq_of_lt h
  rw [this, Nat.xor_zero] at e
  exact e
theorem rb_lt {r c : Nat} (k : Nat) (h : r < 4294967296) : rb k r c < 4294967296 := by
  induction k with
  | zero => exact h
  | succ k ih => exact sh_lt (xor_lt32 ih (by omega))

theorem xor_self_left (a b : Nat) : a ^^^ (a ^^^ b) = b := by rw [← Nat.xor_assoc, Nat.xor_self, Nat.zero_xor]
theorem xor_zero_iff {a b : Nat} (h : a ^^^ b = 0) : a = b := by
  have := xor_self_left a b
  rw [h, Nat.xor_zero] at this
  exact this
theorem sh_zero {n : Nat} (hn : n < 4294967296) (h : sh n = 0) : n = 0 := by
  unfold sh at h
  split at h
  · have := xor_zero_iff h
    omega
  · omega
theorem sh_inj {a b : Nat} (ha : a < 4294967296) (hb : b < 4294967296) (h : sh a = sh b) : a = b := by
  apply xor_zero_iff
  apply sh_zero (xor_lt32 ha hb)
  rw [sh_xor, h, Nat.xor_self]
theorem shN_inj {a b : Nat} (k : Nat) (ha : a < 4294967296) (hb : b < 4294967296) (h : shN k a = shN k b) : a = b := by
  induction k with
  | zero => exact h
  | succ k ih => exact ih (sh_inj (shN_lt k ha) (shN_lt k hb) h)
theorem xor_right_inj {a b c : Nat} (h : a ^^^ c = b ^^^ c) : a = b := by
  have := congrArg (· ^^^ c) h
  simpa [Nat.xor_assoc] using this
theorem upd_inj {a b : Nat} {z : Int} (ha : a < 4294967296) (hb : b < 4294967296) (hz : z ≤ 255) (h : upd a z = upd b z) : a = b :=
  xor_right_inj (shN_inj 8 (xor_lt32 ha (by omega)) (xor_lt32 hb (by omega)) h)
theorem come_inj {a b : Nat} {zs : List Int} (ha : a < 4294967296) (hb : b < 4294967296) (hz : Bytes zs) (h : come a zs = come b zs) : a = b := by
  induction zs generalizing a b with
  | nil => exact h
  | cons z zs ih =>
    have hz0 := hz z (by simp)
    exact upd_inj ha hb hz0.2 (ih (upd_lt ha hz0.2) (upd_lt hb hz0.2) (fun y hy => hz y (by simp [hy])) h)
theorem upd_ne {r : Nat} {y z : Int} (hr : r < 4294967296) (hy : 0 ≤ y ∧ y ≤ 255) (hz : 0 ≤ z ∧ z ≤ 255) (h : upd r y = upd r z) : y = z := by
  have h1 := shN_inj 8 (xor_lt32 hr (by omega)) (xor_lt32 hr (by omega)) h
  rw [Nat.xor_comm r, Nat.xor_comm r] at h1
  have := xor_right_inj h1
  omega
theorem come_ne {r : Nat} {xs ys : List Int} {y z : Int} (hr : r < 4294967296) (hx : Bytes xs) (hys : Bytes ys) (hy : 0 ≤ y ∧ y ≤ 255) (hz : 0 ≤ z ∧ z ≤ 255) (hne : y ≠ z) :
    come r (xs ++ y :: ys) ≠ come r (xs ++ z :: ys) := by
  intro h
  rw [come_append, come_append] at h
  have hc := come_lt hr hx
  exact hne (upd_ne hc hy hz (come_inj (upd_lt hc hy.2) (upd_lt hc hz.2) hys h))
theorem sumOf_lt (s : Nat) (zs : List Int) : sumOf s zs < 4294967296 := neg32_lt _
theorem sumOf_append {s : Nat} {xs ys : List Int} (hx : Bytes xs) : sumOf (sumOf s xs) ys = sumOf s (xs ++ ys) := by
  unfold sumOf
  rw [neg32_neg32 (come_lt (neg32_lt s) hx), come_append]
theorem sumOf_ne {s : Nat} {xs ys : List Int} {y z : Int} (hx : Bytes xs) (hys : Bytes ys) (hy : 0 ≤ y ∧ y ≤ 255) (hz : 0 ≤ z ∧ z ≤ 255) (hne : y ≠ z) :
    sumOf s (xs ++ y :: ys) ≠ sumOf s (xs ++ z :: ys) := by
  intro h
  have by1 : Bytes (xs ++ y :: ys) := by
    intro u hu
    simp at hu
    rcases hu with hu | rfl | hu
    · exact hx u hu
    · exact hy
    · exact hys u hu
  have by2 : Bytes (xs ++ z :: ys) := by
    intro u hu
    simp at hu
    rcases hu with hu | rfl | hu
    · exact hx u hu
    · exact hz
    · exact hys u hu
  exact come_ne (neg32_lt s) hx hys hy hz hne (neg32_inj (come_lt (neg32_lt s) by1) (come_lt (neg32_lt s) by2) h)
theorem sumOf_known : sumOf 0 [49, 50, 51, 52, 53, 54, 55, 56, 57] = 3421780262 := by decide +kernel
end Go.Proofs.Ytgfhcbdhggnbaaa.Crc

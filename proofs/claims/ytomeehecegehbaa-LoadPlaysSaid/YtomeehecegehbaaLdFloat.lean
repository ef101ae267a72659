/- Whole numbers as floats: below 2^53 each has a float of its own, and sums and differences are exact; above 2^52 they stay above. -/
import Derived.Laws.ComplexArith
namespace Go.Proofs.Ytomeehecegehbaa.Ld
open Ieee
set_option linter.unusedVariables false
set_option linter.unusedSimpArgs false
/- 1074, whose power is not to be computed. -/
@[irreducible] def ex : Nat := 1074
theorem ex_is : ex = 1074 := by unfold ex; rfl
def fl (n : Nat) : Nat := FloatKind.f64.nearest (n : Int)
/- The word of n, written out. -/
def wd (n : Nat) : Nat := (n.log2 + 1022) * 4503599627370496 + n * 2 ^ (52 - n.log2)
theorem fl_nearest (n : Nat) : fl n = double.nearest false n 0 := by
  unfold fl FloatKind.nearest FloatKind.encode FloatKind.format Format.write
  have h : decide ((n : Int) < 0) = false := by simp
  rw [h]
  rfl
theorem least : double.leastPlace = -1074 := by decide
theorem binade_ : double.binade = 4503599627370496 := by decide
theorem inf_ : double.infRung = 2047 * 4503599627370496 := by decide
theorem sign_ : double.signWeight = 9223372036854775808 := by decide
theorem log2_mul_pow {n : Nat} (h : n ≠ 0) (k : Nat) : (n * 2 ^ k).log2 = n.log2 + k := by
  have hp := Nat.two_pow_pos k
  refine (Nat.log2_eq_iff (Nat.mul_ne_zero h (by omega))).2 ⟨?_, ?_⟩
  · rw [Nat.pow_add]; exact Nat.mul_le_mul_right _ (Nat.log2_self_le h)
  · rw [show n.log2 + k + 1 = (n.log2 + 1) + k by omega, Nat.pow_add]; exact Nat.mul_lt_mul_of_pos_right Nat.lt_log2_self hp
theorem pow_log2_le {n : Nat} (h : n ≠ 0) : 2 ^ n.log2 ≤ n := Nat.log2_self_le h
theorem lt_pow_log2 (n : Nat) : n < 2 ^ (n.log2 + 1) := Nat.lt_log2_self
theorem log2_small {n : Nat} (h0 : n ≠ 0) (h : n < 9007199254740992) : n.log2 ≤ 52 := by
  have := (Nat.log2_lt h0 (k := 53)).2 h
  omega
theorem kept_ge {n : Nat} (h0 : n ≠ 0) (h : n < 9007199254740992) : 4503599627370496 ≤ n * 2 ^ (52 - n.log2) ∧ n * 2 ^ (52 - n.log2) < 9007199254740992 := by
  have hl := log2_small h0 h
  have h1 := pow_log2_le h0
  have h2 := lt_pow_log2 n
  have e1 : (4503599627370496 : Nat) = 2 ^ n.log2 * 2 ^ (52 - n.log2) := by rw [← Nat.pow_add, show n.log2 + (52 - n.log2) = 52 by omega]
  have e2 : (9007199254740992 : Nat) = 2 ^ (n.log2 + 1) * 2 ^ (52 - n.log2) := by rw [← Nat.pow_add, show n.log2 + 1 + (52 - n.log2) = 53 by omega]
  constructor
  · rw [e1]; exact Nat.mul_le_mul_right _ h1
  · rw [e2]; exact Nat.mul_lt_mul_of_pos_right h2 (Nat.two_pow_pos _)
theorem cut_none (n : Nat) : Toward.even.cut false n 0 = n := by
  unfold Toward.cut
  have h1 : n % 1 = 0 := Nat.mod_one n
  simp [h1]
theorem cut_whole (n k : Nat) (hk : k ≤ (n * 2 ^ k).log2 + 2) : Toward.even.cut false (n * 2 ^ k) k = n := by
  unfold Toward.cut
  have hp := Nat.two_pow_pos k
  rw [Nat.min_eq_left hk, Nat.one_shiftLeft]
  simp only [Nat.mul_div_cancel _ hp, Nat.mul_mod_left, Nat.mul_zero]
  have h1 : decide (2 ^ k < 0) = false := by simp
  have h2 : (2 ^ k == 0) = false := by simp
  simp
/- A number written from any of its forms: mag * 2^place = n. -/
theorem nearest_of {n mag p : Nat} (h0 : n ≠ 0) (h : n < 9007199254740992) (hv : mag * 2 ^ p = n * 2 ^ ex) : double.nearest false mag ((p : Int) - 1074) = wd n := by
  have hl := log2_small h0 h
  have hm : mag ≠ 0 := by
    rintro rfl
    rw [Nat.zero_mul] at hv
    have := Nat.two_pow_pos ex
    exact Nat.mul_ne_zero h0 (by omega) hv.symm
  have hlog : mag.log2 + p = n.log2 + 1074 := by
    rw [← ex_is, ← log2_mul_pow hm p, hv, log2_mul_pow h0]
  have hk := kept_ge h0 h
  unfold Format.nearest
  rw [if_neg hm]
  have e1 : max ((p : Int) - 1074 + (mag.log2 : Int) - ((double.fractionBits : Nat) : Int)) (-1074) = (n.log2 : Int) - 52 := by
    show max ((p : Int) - 1074 + (mag.log2 : Int) - 52) (-1074) = _
    omega
  simp only [least, e1, binade_, inf_]
  have e2 : ((n.log2 : Int) - 52 - (-1074)).toNat = n.log2 + 1022 := by omega
  have e3 : ((p : Int) - 1074 - ((n.log2 : Int) - 52)).toNat = 52 - mag.log2 := by omega
  have e4 : ((n.log2 : Int) - 52 - ((p : Int) - 1074)).toNat = mag.log2 - 52 := by omega
  rw [e2, e3, e4]
  have hkept : Toward.even.cut false (mag <<< (52 - mag.log2)) (mag.log2 - 52) = n * 2 ^ (52 - n.log2) := by
    by_cases hc : mag.log2 ≤ 52
    · rw [show mag.log2 - 52 = 0 by omega, cut_none, Nat.shiftLeft_eq]
      refine Nat.eq_of_mul_eq_mul_right (Nat.two_pow_pos (n.log2 + 1022)) ?_
      rw [Nat.mul_assoc, Nat.mul_assoc, ← Nat.pow_add, ← Nat.pow_add, show 52 - mag.log2 + (n.log2 + 1022) = p by omega, show 52 - n.log2 + (n.log2 + 1022) = ex by rw [ex_is]; omega]
      exact hv
    · rw [show 52 - mag.log2 = 0 by omega, Nat.shiftLeft_zero]
      have e5 : mag = (n * 2 ^ (52 - n.log2)) * 2 ^ (mag.log2 - 52) := by
        refine Nat.eq_of_mul_eq_mul_right (Nat.two_pow_pos p) ?_
        rw [hv, Nat.mul_assoc, Nat.mul_assoc, ← Nat.pow_add, ← Nat.pow_add, show 52 - n.log2 + (mag.log2 - 52 + p) = ex by rw [ex_is]; omega]
      obtain ⟨k, hkk⟩ : ∃ k, mag.log2 - 52 = k := ⟨_, rfl⟩
      rw [hkk] at e5 ⊢
      conv => lhs; arg 3; rw [e5]
      exact cut_whole _ _ (by rw [← e5]; omega)
  rw [hkept]
  unfold Format.word
  rw [if_neg (by simp)]
  unfold wd
  exact Nat.min_eq_left (by omega)
theorem fl_zero : fl 0 = 0 := by kernel_rfl
theorem fl_word {n : Nat} (h0 : n ≠ 0) (h : n < 9007199254740992) : fl n = wd n := by
  rw [fl_nearest]
  have := nearest_of (mag := n) (p := ex) h0 h rfl
  rw [show ((ex : Nat) : Int) - 1074 = 0 by rw [ex_is]; rfl] at this
  exact this
/- What a word stands for: the whole number n. -/
def Val (x n : Nat) : Prop := ∃ m p : Nat, double.read x = .number false m ((p : Int) - 1074) ∧ m * 2 ^ p = n * 2 ^ ex
theorem read_word {n : Nat} (h0 : n ≠ 0) (h : n < 9007199254740992) : double.read (wd n) = .number false (n * 2 ^ (52 - n.log2)) ((n.log2 : Int) - 52) := by
  have hk := kept_ge h0 h
  have hl := log2_small h0 h
  obtain ⟨f, hf⟩ : ∃ f, n * 2 ^ (52 - n.log2) = 4503599627370496 + f := ⟨n * 2 ^ (52 - n.log2) - 4503599627370496, by omega⟩
  have hw : wd n = (n.log2 + 1023) * 4503599627370496 + f := by unfold wd; omega
  unfold Format.read
  simp only [sign_, binade_, inf_, least]
  rw [hw, hf]
  have hf2 : f < 4503599627370496 := by omega
  have e1 : ((n.log2 + 1023) * 4503599627370496 + f) % 9223372036854775808 = (n.log2 + 1023) * 4503599627370496 + f := Nat.mod_eq_of_lt (by omega)
  have e2 : ((n.log2 + 1023) * 4503599627370496 + f) / 9223372036854775808 = 0 := Nat.div_eq_of_lt (by omega)
  have e3 : ((n.log2 + 1023) * 4503599627370496 + f) / 4503599627370496 = n.log2 + 1023 := by omega
  have e4 : ((n.log2 + 1023) * 4503599627370496 + f) % 4503599627370496 = f := by omega
  rw [e1, e2, e3, e4, if_neg (by omega), if_pos (by omega)]
  simp
  omega
theorem val_fl {n : Nat} (h : n < 9007199254740992) : Val (fl n) n := by
  by_cases h0 : n = 0
  · subst h0
    exact ⟨0, 0, by rw [fl_zero]; kernel_rfl, by rw [Nat.zero_mul, Nat.zero_mul]⟩
  · rw [fl_word h0 h]
    have hl := log2_small h0 h
    refine ⟨n * 2 ^ (52 - n.log2), n.log2 + 1022, ?_, ?_⟩
    · rw [read_word h0 h, show ((n.log2 + 1022 : Nat) : Int) - 1074 = (n.log2 : Int) - 52 by omega]
    · rw [Nat.mul_assoc, ← Nat.pow_add, show 52 - n.log2 + (n.log2 + 1022) = ex by rw [ex_is]; omega]
theorem write_of {n mag p : Nat} (h : n < 9007199254740992) (hv : mag * 2 ^ p = n * 2 ^ ex) : double.nearest false mag ((p : Int) - 1074) = fl n := by
  by_cases h0 : n = 0
  · subst h0
    rw [Nat.zero_mul] at hv
    have hm : mag = 0 := by
      rcases Nat.mul_eq_zero.1 hv with h | h
      · exact h
      · have := Nat.two_pow_pos p; omega
    subst hm
    rw [fl_zero]
    unfold Format.nearest
    rw [if_pos rfl]
    rfl
  · rw [fl_word h0 h]; exact nearest_of h0 h hv
/- Both magnitudes at one place. -/
theorem at_base {m p q n : Nat} (h : m * 2 ^ p = n * 2 ^ ex) (hq : q ≤ p) : (m <<< ((p : Int) - 1074 - ((q : Int) - 1074)).toNat) * 2 ^ q = n * 2 ^ ex := by
  rw [show ((p : Int) - 1074 - ((q : Int) - 1074)).toNat = p - q by omega, Nat.shiftLeft_eq, Nat.mul_assoc, ← Nat.pow_add, show p - q + q = p by omega]
  exact h
theorem min_place (p q : Nat) : min ((p : Int) - 1074) ((q : Int) - 1074) = ((min p q : Nat) : Int) - 1074 := by omega
theorem signed_p (u : Nat) : signed false u 0 = (u : Int) := rfl
theorem signed_n (u : Nat) : signed true u 0 = -(u : Int) := rfl
theorem signed_shift (s : Bool) (u k : Nat) : signed s u k = signed s (u <<< k) 0 := rfl
theorem add_val {x y a b : Nat} (hx : Val x a) (hy : Val y b) (h : a + b < 9007199254740992) : double.add x y = some (fl (a + b)) := by
  obtain ⟨m, p, h1, h2⟩ := hx
  obtain ⟨n, q, h3, h4⟩ := hy
  unfold Format.add
  rw [h1, h3]
  unfold Datum.sum
  simp only [min_place, Option.map_some, Format.write]
  have k1 := at_base h2 (Nat.min_le_left p q)
  have k2 := at_base h4 (Nat.min_le_right p q)
  rw [signed_shift false m, signed_shift false n]
  generalize m <<< ((p : Int) - 1074 - (((min p q : Nat) : Int) - 1074)).toNat = u at k1 ⊢
  generalize n <<< ((q : Int) - 1074 - (((min p q : Nat) : Int) - 1074)).toNat = v at k2 ⊢
  rw [signed_p, signed_p]
  have e1 : ((u : Int) + (v : Int)).natAbs = u + v := by omega
  have e2 : (if (u : Int) + (v : Int) = 0 then (false && false) else decide ((u : Int) + (v : Int) < 0)) = false := by
    split
    · rfl
    · simp; omega
  rw [e1, e2]
  congr 1
  refine write_of h ?_
  rw [Nat.add_mul, k1, k2, Nat.add_mul]
theorem sub_val {x y a b : Nat} (hx : Val x a) (hy : Val y b) (hab : b ≤ a) (h : a < 9007199254740992) : double.sub x y = some (fl (a - b)) := by
  obtain ⟨m, p, h1, h2⟩ := hx
  obtain ⟨n, q, h3, h4⟩ := hy
  unfold Format.sub
  rw [h1, h3]
  unfold Datum.opposite Datum.sum
  simp only [min_place, Option.map_some, Format.write]
  have k1 := at_base h2 (Nat.min_le_left p q)
  have k2 := at_base h4 (Nat.min_le_right p q)
  rw [signed_shift false m, signed_shift _ n]
  generalize m <<< ((p : Int) - 1074 - (((min p q : Nat) : Int) - 1074)).toNat = u at k1 ⊢
  generalize n <<< ((q : Int) - 1074 - (((min p q : Nat) : Int) - 1074)).toNat = v at k2 ⊢
  have huv : v ≤ u := by
    refine Nat.le_of_mul_le_mul_right ?_ (Nat.two_pow_pos (min p q))
    rw [k1, k2]; exact Nat.mul_le_mul_right _ hab
  have hb : (!false) = true := rfl
  rw [hb, signed_p, signed_n]
  have e1 : ((u : Int) + -(v : Int)).natAbs = u - v := by omega
  have e2 : (if (u : Int) + -(v : Int) = 0 then (false && true) else decide ((u : Int) + -(v : Int) < 0)) = false := by
    split
    · rfl
    · simp; omega
  rw [e1, e2]
  congr 1
  refine write_of (by omega) ?_
  rw [Nat.sub_mul, k1, k2, Nat.sub_mul]
theorem order_val {x y a b : Nat} (hx : Val x a) (hy : Val y b) : double.order x y = some (compare a b) := by
  obtain ⟨m, p, h1, h2⟩ := hx
  obtain ⟨n, q, h3, h4⟩ := hy
  unfold Format.order
  rw [h1, h3]
  unfold Datum.order
  simp only [min_place]
  have k1 := at_base h2 (Nat.min_le_left p q)
  have k2 := at_base h4 (Nat.min_le_right p q)
  rw [signed_shift false m, signed_shift false n]
  generalize m <<< ((p : Int) - 1074 - (((min p q : Nat) : Int) - 1074)).toNat = u at k1 ⊢
  generalize n <<< ((q : Int) - 1074 - (((min p q : Nat) : Int) - 1074)).toNat = v at k2 ⊢
  rw [signed_p, signed_p]
  congr 1
  have hp := Nat.two_pow_pos (min p q)
  have he := Nat.two_pow_pos ex
  rcases Nat.lt_trichotomy a b with hc | hc | hc
  · have : u < v := by
      refine Nat.lt_of_mul_lt_mul_right (a := 2 ^ min p q) ?_
      rw [k1, k2]; exact Nat.mul_lt_mul_of_pos_right hc he
    rw [Nat.compare_eq_lt.2 hc]
    exact Int.compare_eq_lt.2 (by omega)
  · have : u = v := by
      refine Nat.eq_of_mul_eq_mul_right hp ?_
      rw [k1, k2, hc]
    rw [Nat.compare_eq_eq.2 hc]
    exact Int.compare_eq_eq.2 (by omega)
  · have : v < u := by
      refine Nat.lt_of_mul_lt_mul_right (a := 2 ^ min p q) ?_
      rw [k1, k2]; exact Nat.mul_lt_mul_of_pos_right hc he
    rw [Nat.compare_eq_gt.2 hc]
    exact Int.compare_eq_gt.2 (by omega)
/- Words of numbers of 2^52 at least, and that of more than any. -/
def Big (x : Nat) : Prop := 1075 * 4503599627370496 ≤ x ∧ x ≤ 2047 * 4503599627370496
theorem big_read {x : Nat} (h : Big x) : double.read x = .infinity false ∨ ∃ m q : Nat, double.read x = .number false m (q : Int) ∧ 4503599627370496 ≤ m := by
  obtain ⟨h1, h2⟩ := h
  unfold Format.read
  simp only [sign_, binade_, inf_, least]
  have e1 : x % 9223372036854775808 = x := Nat.mod_eq_of_lt (by omega)
  have e2 : x / 9223372036854775808 = 0 := Nat.div_eq_of_lt (by omega)
  rw [e1, e2, if_neg (by omega)]
  by_cases hc : x < 2047 * 4503599627370496
  · rw [if_pos hc]
    refine .inr ⟨4503599627370496 + x % 4503599627370496, x / 4503599627370496 - 1075, ?_, by omega⟩
    have : 1075 ≤ x / 4503599627370496 := by omega
    simp
    omega
  · rw [if_neg hc, if_pos (by omega)]
    exact .inl rfl
theorem nearest_big {mag : Nat} {place : Int} (h0 : mag ≠ 0) (hp : -1074 ≤ place) (hv : 52 ≤ place + mag.log2) : Big (double.nearest false mag place) := by
  unfold Format.nearest
  rw [if_neg h0]
  have e1 : max (place + (mag.log2 : Int) - ((double.fractionBits : Nat) : Int)) (-1074) = place + (mag.log2 : Int) - 52 := by
    show max (place + (mag.log2 : Int) - 52) (-1074) = _
    omega
  simp only [least, e1, binade_, inf_]
  unfold Format.word
  rw [if_neg (by simp)]
  have e3 : (place - (place + (mag.log2 : Int) - 52)).toNat = 52 - mag.log2 := by omega
  have e4 : (place + (mag.log2 : Int) - 52 - place).toNat = mag.log2 - 52 := by omega
  rw [e3, e4]
  have hk : 4503599627370496 ≤ Toward.even.cut false (mag <<< (52 - mag.log2)) (mag.log2 - 52) := by
    have h1 := Nat.log2_self_le h0
    by_cases hc : mag.log2 ≤ 52
    · rw [show mag.log2 - 52 = 0 by omega, cut_none, Nat.shiftLeft_eq]
      have e5 : (4503599627370496 : Nat) = 2 ^ mag.log2 * 2 ^ (52 - mag.log2) := by rw [← Nat.pow_add, show mag.log2 + (52 - mag.log2) = 52 by omega]
      rw [e5]
      exact Nat.mul_le_mul_right _ h1
    · rw [show 52 - mag.log2 = 0 by omega, Nat.shiftLeft_zero]
      unfold Toward.cut
      rw [Nat.min_eq_left (by omega), Nat.one_shiftLeft]
      refine Nat.le_trans ?_ (Nat.le_add_right _ _)
      rw [Nat.le_div_iff_mul_le (Nat.two_pow_pos _)]
      have e5 : (4503599627370496 : Nat) = 2 ^ 52 := rfl
      rw [e5, ← Nat.pow_add, show 52 + (mag.log2 - 52) = mag.log2 by omega]
      exact h1
  have e6 : 1074 ≤ (place + (mag.log2 : Int) - 52 - (-1074)).toNat := by omega
  constructor
  · rw [Nat.le_min]
    exact ⟨by omega, by omega⟩
  · exact Nat.min_le_right _ _
theorem big_fl {n : Nat} (h : 4503599627370496 ≤ n) : Big (fl n) := by
  rw [fl_nearest]
  have h0 : n ≠ 0 := by omega
  refine nearest_big h0 (by omega) ?_
  have := (Nat.le_log2 h0 (k := 52)).2 h
  omega
theorem add_big {x y a : Nat} (hx : Val x a) (hy : Big y) : ∃ r, double.add x y = some r ∧ Big r := by
  obtain ⟨m, p, h1, h2⟩ := hx
  unfold Format.add
  rw [h1]
  rcases big_read hy with h3 | ⟨n, q, h3, h4⟩
  · rw [h3]
    exact ⟨_, rfl, by unfold Format.write Format.word Big; rw [inf_]; simp⟩
  · rw [h3]
    unfold Datum.sum
    simp only [Option.map_some, Format.write]
    rw [signed_shift false m, signed_shift false n]
    generalize m <<< ((p : Int) - 1074 - min ((p : Int) - 1074) (q : Int)).toNat = u
    obtain ⟨v, hv⟩ : ∃ v, n <<< ((q : Int) - min ((p : Int) - 1074) (q : Int)).toNat = v := ⟨_, rfl⟩
    rw [hv, signed_p, signed_p]
    have hn : n ≠ 0 := by omega
    have hl := (Nat.le_log2 hn (k := 52)).2 h4
    have hlv : v.log2 = n.log2 + ((q : Int) - min ((p : Int) - 1074) (q : Int)).toNat := by rw [← hv, Nat.shiftLeft_eq, log2_mul_pow hn]
    have hv0 : v ≠ 0 := by
      rw [← hv, Nat.shiftLeft_eq]
      exact Nat.mul_ne_zero hn (by have := Nat.two_pow_pos ((q : Int) - min ((p : Int) - 1074) (q : Int)).toNat; omega)
    have e1 : ((u : Int) + (v : Int)).natAbs = u + v := by omega
    have e2 : (if (u : Int) + (v : Int) = 0 then (false && false) else decide ((u : Int) + (v : Int) < 0)) = false := by
      split
      · rfl
      · simp; omega
    rw [e1, e2]
    refine ⟨_, rfl, nearest_big (by omega) (by omega) ?_⟩
    have : v.log2 ≤ (u + v).log2 := (Nat.le_log2 (by omega)).2 (Nat.le_trans (Nat.log2_self_le hv0) (by omega))
    omega
theorem order_big {x y b : Nat} (hx : Big x) (hy : Val y b) (hb : b < 4503599627370496) : double.order x y = some .gt := by
  obtain ⟨n, q, h3, h4⟩ := hy
  unfold Format.order
  rw [h3]
  rcases big_read hx with h1 | ⟨m, p, h1, h2⟩
  · rw [h1]; rfl
  · rw [h1]
    unfold Datum.order
    simp only
    congr 1
    refine Int.compare_eq_gt.2 ?_
    rw [signed_shift false m, signed_shift false n, signed_p, signed_p]
    have hbase : min (p : Int) ((q : Int) - 1074) ≤ (q : Int) - 1074 := Int.min_le_right _ _
    obtain ⟨c, hc⟩ : ∃ c : Nat, (c : Int) = min (p : Int) ((q : Int) - 1074) + 1074 := ⟨(min (p : Int) ((q : Int) - 1074) + 1074).toNat, by omega⟩
    rw [Nat.shiftLeft_eq, Nat.shiftLeft_eq]
    have e1 : ((p : Int) - min (p : Int) ((q : Int) - 1074)).toNat = p + ex - c := by rw [ex_is]; omega
    have e2 : ((q : Int) - 1074 - min (p : Int) ((q : Int) - 1074)).toNat = q - c := by omega
    rw [e1, e2]
    have : n * 2 ^ (q - c) < m * 2 ^ (p + ex - c) := by
      refine Nat.lt_of_mul_lt_mul_right (a := 2 ^ c) ?_
      rw [Nat.mul_assoc, Nat.mul_assoc, ← Nat.pow_add, ← Nat.pow_add, show q - c + c = q by omega, show p + ex - c + c = p + ex by rw [ex_is]; omega, h4]
      refine Nat.lt_of_lt_of_le (Nat.mul_lt_mul_of_pos_right (show b < m by omega) (Nat.two_pow_pos ex)) ?_
      exact Nat.mul_le_mul_left _ (Nat.pow_le_pow_right (by omega) (by omega))
    omega
end Go.Proofs.Ytomeehecegehbaa.Ld

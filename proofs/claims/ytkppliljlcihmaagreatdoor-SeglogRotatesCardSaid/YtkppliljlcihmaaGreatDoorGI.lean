/- In one text: Plain mathematics of the sum of layer 1: shifting a register of 32 bits is linear and one-to-one, so the bitwise sum is the bytewise one, and a byte that is changed changes the sum. No condition but that registers are below 2^32. What each function of layer 1 and of its reference returns, for every register below 2^32 and every slice of bytes that can be read: contracts, callees first. Contracts of crc.Add, crc.Sum and the reference's Sum: for every sum below 2^32 and every slice of bytes that can be read they return the sum, and leave the world alone. -/
import Derived.Laws.BitsAllLaws
import Derived.Test.YtkppliljlcihmaaGreatDoorGA
import Derived.Test.YtkppliljlcihmaaGreatDoorProg
import Derived.WalkKit
import Derived.ProofKit
import Derived.Below
import Derived.Outline
import Derived.WalkSpells
import Derived.WalkLawsBesides
import Derived.LoopTactic
import Derived.Lib.Hide
import Derived.Lib.SlBytesConst
namespace Go.Proofs.YtkppliljlcihmaaGreatDoor.Crc
open Go.Proofs.YtkppliljlcihmaaGreatDoor.Mem

def sh (n : Nat) : Nat := if n % 2 = 1 then n / 2 ^^^ 3988292384 else n / 2
def shN : Nat → Nat → Nat
  | 0, n => n
  | k + 1, n => sh (shN k n)
def upd (r : Nat) (z : Int) : Nat := shN 8 (r ^^^ z.toNat)
def come (r : Nat) (zs : List Int) : Nat := zs.foldl upd r
def rb : Nat → Nat → Nat → Nat
  | 0, r, _ => r
  | k + 1, r, c => sh (rb k r c ^^^ (c / 2 ^ k % 2))
def neg32 (n : Nat) : Nat := 4294967295 - n
def sumOf (s : Nat) (zs : List Int) : Nat := neg32 (come (neg32 s) zs)

theorem xor_lt32 {a b : Nat} (ha : a < 4294967296) (hb : b < 4294967296) : a ^^^ b < 4294967296 :=
  Nat.xor_lt_two_pow (n := 32) ha hb
theorem sh_lt {n : Nat} (h : n < 4294967296) : sh n < 4294967296 := by
  unfold sh
  split
  · exact xor_lt32 (by omega) (by omega)
  · omega
theorem shN_lt {n : Nat} (k : Nat) (h : n < 4294967296) : shN k n < 4294967296 := by
  induction k with
  | zero => exact h
  | succ k ih => exact sh_lt ih
theorem neg32_lt (n : Nat) : neg32 n < 4294967296 := by unfold neg32; omega
theorem neg32_neg32 {n : Nat} (h : n < 4294967296) : neg32 (neg32 n) = n := by unfold neg32; omega
theorem neg32_inj {a b : Nat} (ha : a < 4294967296) (hb : b < 4294967296) (h : neg32 a = neg32 b) : a = b := by unfold neg32 at h; omega
theorem upd_lt {r : Nat} {z : Int} (hr : r < 4294967296) (hz : z ≤ 255) : upd r z < 4294967296 :=
  shN_lt 8 (xor_lt32 hr (by omega))
theorem come_lt {r : Nat} {zs : List Int} (hr : r < 4294967296) (hz : Bytes zs) : come r zs < 4294967296 := by
  induction zs generalizing r with
  | nil => exact hr
  | cons z zs ih =>
    exact ih (upd_lt hr (hz z (by simp)).2) (fun y hy => hz y (by simp [hy]))
theorem come_append (r : Nat) (xs ys : List Int) : come r (xs ++ ys) = come (come r xs) ys := by
  unfold come; rw [List.foldl_append]
theorem come_snoc (r : Nat) (xs : List Int) (z : Int) : come r (xs ++ [z]) = upd (come r xs) z := by
  rw [come_append]; rfl

theorem xor_par (a b : Nat) : (a ^^^ b) % 2 = (a + b) % 2 := by
  have h : (a ^^^ b) % 2 = a % 2 ^^^ b % 2 := Nat.xor_mod_two_pow (n := 1)
  rw [h, Nat.add_mod]
  rcases Nat.mod_two_eq_zero_or_one a with ha | ha <;> rcases Nat.mod_two_eq_zero_or_one b with hb | hb <;> rw [ha, hb] <;> decide
theorem xor_half (a b : Nat) : (a ^^^ b) / 2 = a / 2 ^^^ b / 2 := Nat.xor_div_two
theorem sh_xor (a b : Nat) : sh (a ^^^ b) = sh a ^^^ sh b := by
  unfold sh
  rw [xor_par, xor_half]
  rcases Nat.mod_two_eq_zero_or_one a with ha | ha <;> rcases Nat.mod_two_eq_zero_or_one b with hb | hb
  · rw [if_neg (by omega), if_neg (by omega), if_neg (by omega)]
  · rw [if_pos (by omega), if_neg (by omega), if_pos (by omega), Nat.xor_assoc]
  · rw [if_pos (by omega), if_pos (by omega), if_neg (by omega), Nat.xor_assoc, Nat.xor_assoc, Nat.xor_comm (b / 2)]
  · rw [if_neg (by omega), if_pos (by omega), if_pos (by omega), Nat.xor_assoc, Nat.xor_comm 3988292384, Nat.xor_assoc, Nat.xor_self, Nat.xor_zero]
theorem sh_even {n : Nat} (h : n % 2 = 0) : sh n = n / 2 := by unfold sh; rw [if_neg (by omega)]
theorem sh_split (a y : Nat) : sh (a ^^^ y) = sh (a ^^^ y % 2) ^^^ y / 2 := by
  have e : y = y % 2 ^^^ (y - y % 2) := by
    apply Nat.eq_of_testBit_eq
    intro i
    cases i with
    | zero =>
      rw [Nat.testBit_zero, Nat.testBit_zero, xor_par]
      congr 1
      have : (y % 2 + (y - y % 2)) % 2 = y % 2 := by omega
      rw [this]
    | succ i =>
      rw [Nat.testBit_succ, Nat.testBit_succ, xor_half]
      have h1 : y % 2 / 2 = 0 := by omega
      have h2 : (y - y % 2) / 2 = y / 2 := by omega
      rw [h1, h2, Nat.zero_xor]
  have h3 : sh (y - y % 2) = y / 2 := by rw [sh_even (by omega)]; omega
  calc sh (a ^^^ y) = sh ((a ^^^ y % 2) ^^^ (y - y % 2)) := by rw [Nat.xor_assoc, ← e]
    _ = sh (a ^^^ y % 2) ^^^ y / 2 := by rw [sh_xor, h3]
theorem rb_xor (k r c : Nat) : rb k r c ^^^ c / 2 ^ k = shN k (r ^^^ c) := by
  induction k with
  | zero => simp [rb, shN]
  | succ k ih =>
    show sh (rb k r c ^^^ (c / 2 ^ k % 2)) ^^^ c / 2 ^ (k + 1) = sh (shN k (r ^^^ c))
    rw [← ih, sh_split (rb k r c) (c / 2 ^ k), Nat.pow_succ, Nat.div_div_eq_div_mul]
theorem rb8 (r c : Nat) (h : c < 256) : rb 8 r c = shN 8 (r ^^^ c) := by
  have e := rb_xor 8 r c
  have : c / 2 ^ 8 = 0 := Nat.div_eq_of_lt h
  rw [this, Nat.xor_zero] at e
  exact e
theorem rb_lt {r c : Nat} (k : Nat) (h : r < 4294967296) : rb k r c < 4294967296 := by
  induction k with
  | zero => exact h
  | succ k ih => exact sh_lt (xor_lt32 ih (by omega))

theorem xor_self_left (a b : Nat) : a ^^^ (a ^^^ b) = b := by rw [← Nat.xor_assoc, Nat.xor_self, Nat.zero_xor]
theorem xor_zero_iff {a b : Nat} (h : a ^^^ b = 0) : a = b := by
  have := xor_self_left a b
  rw [h, Nat.xor_zero] at this
  exact this
theorem sh_zero {n : Nat} (hn : n < 4294967296) (h : sh n = 0) : n = 0 := by
  unfold sh at h
  split at h
  · have := xor_zero_iff h
    omega
  · omega
theorem sh_inj {a b : Nat} (ha : a < 4294967296) (hb : b < 4294967296) (h : sh a = sh b) : a = b := by
  apply xor_zero_iff
  apply sh_zero (xor_lt32 ha hb)
  rw [sh_xor, h, Nat.xor_self]
theorem shN_inj {a b : Nat} (k : Nat) (ha : a < 4294967296) (hb : b < 4294967296) (h : shN k a = shN k b) : a = b := by
  induction k with
  | zero => exact h
  | succ k ih => exact ih (sh_inj (shN_lt k ha) (shN_lt k hb) h)
theorem xor_right_inj {a b c : Nat} (h : a ^^^ c = b ^^^ c) : a = b := by
  have := congrArg (· ^^^ c) h
  simpa [Nat.xor_assoc] using this
theorem upd_inj {a b : Nat} {z : Int} (ha : a < 4294967296) (hb : b < 4294967296) (hz : z ≤ 255) (h : upd a z = upd b z) : a = b :=
  xor_right_inj (shN_inj 8 (xor_lt32 ha (by omega)) (xor_lt32 hb (by omega)) h)
theorem come_inj {a b : Nat} {zs : List Int} (ha : a < 4294967296) (hb : b < 4294967296) (hz : Bytes zs) (h : come a zs = come b zs) : a = b := by
  induction zs generalizing a b with
  | nil => exact h
  | cons z zs ih =>
    have hz0 := hz z (by simp)
    exact upd_inj ha hb hz0.2 (ih (upd_lt ha hz0.2) (upd_lt hb hz0.2) (fun y hy => hz y (by simp [hy])) h)
theorem upd_ne {r : Nat} {y z : Int} (hr : r < 4294967296) (hy : 0 ≤ y ∧ y ≤ 255) (hz : 0 ≤ z ∧ z ≤ 255) (h : upd r y = upd r z) : y = z := by
  have h1 := shN_inj 8 (xor_lt32 hr (by omega)) (xor_lt32 hr (by omega)) h
  rw [Nat.xor_comm r, Nat.xor_comm r] at h1
  have := xor_right_inj h1
  omega
theorem come_ne {r : Nat} {xs ys : List Int} {y z : Int} (hr : r < 4294967296) (hx : Bytes xs) (hys : Bytes ys) (hy : 0 ≤ y ∧ y ≤ 255) (hz : 0 ≤ z ∧ z ≤ 255) (hne : y ≠ z) :
    come r (xs ++ y :: ys) ≠ come r (xs ++ z :: ys) := by
  intro h
  rw [come_append, come_append] at h
  have hc := come_lt hr hx
  exact hne (upd_ne hc hy hz (come_inj (upd_lt hc hy.2) (upd_lt hc hz.2) hys h))
theorem sumOf_lt (s : Nat) (zs : List Int) : sumOf s zs < 4294967296 := neg32_lt _
theorem sumOf_append {s : Nat} {xs ys : List Int} (hx : Bytes xs) : sumOf (sumOf s xs) ys = sumOf s (xs ++ ys) := by
  unfold sumOf
  rw [neg32_neg32 (come_lt (neg32_lt s) hx), come_append]
theorem sumOf_ne {s : Nat} {xs ys : List Int} {y z : Int} (hx : Bytes xs) (hys : Bytes ys) (hy : 0 ≤ y ∧ y ≤ 255) (hz : 0 ≤ z ∧ z ≤ 255) (hne : y ≠ z) :
    sumOf s (xs ++ y :: ys) ≠ sumOf s (xs ++ z :: ys) := by
  intro h
  have by1 : Bytes (xs ++ y :: ys) := by
    intro u hu
    simp at hu
    rcases hu with hu | rfl | hu
    · exact hx u hu
    · exact hy
    · exact hys u hu
  have by2 : Bytes (xs ++ z :: ys) := by
    intro u hu
    simp at hu
    rcases hu with hu | rfl | hu
    · exact hx u hu
    · exact hz
    · exact hys u hu
  exact come_ne (neg32_lt s) hx hys hy hz hne (neg32_inj (come_lt (neg32_lt s) by1) (come_lt (neg32_lt s) by2) h)
theorem sumOf_known : sumOf 0 [49, 50, 51, 52, 53, 54, 55, 56, 57] = 3421780262 := by decide +kernel
end Go.Proofs.YtkppliljlcihmaaGreatDoor.Crc
namespace Go.Proofs.YtkppliljlcihmaaGreatDoor.Crc
open Go.Proofs.YtkppliljlcihmaaGreatDoor.Mem
open Go.ChangeShapes Go.WideShapes Go.ChangeAt Go.RowKit
set_option linter.unusedVariables false

theorem ret_int {k : IntKind} {a b : Int} (h : a = b) : Ending.returned (.int k a) = .returned (.int k b) := by rw [h]
theorem val_int {k : IntKind} {a b : Int} (h : a = b) : Value.int k a = .int k b := by rw [h]
theorem u32_xorP (n : Nat) (hn : n < 4294967296) : bits .xor .u32 ((n : Int) / 2) 3988292384 = ((n / 2 ^^^ 3988292384 : Nat) : Int) := by
  have h := u32_xor_nat (n / 2) 3988292384 (by omega) (by omega)
  rw [← h]
  congr 1
theorem sh_odd {n : Nat} (hn : n < 4294967296) (h : (((n : Int) % 2) == 1) = true) : bits .xor .u32 ((n : Int) / 2) 3988292384 = ((sh n : Nat) : Int) := by
  rw [u32_xorP n hn]
  have h1 : n % 2 = 1 := by simp at h; omega
  unfold sh; rw [if_pos h1]
theorem sh_evn {n : Nat} (h : (((n : Int) % 2) == 1) = false) : (n : Int) / 2 = ((sh n : Nat) : Int) := by
  have h1 : ¬ n % 2 = 1 := by simp at h; omega
  unfold sh; rw [if_neg h1]; omega
theorem u32_and1 (n : Nat) (hn : n < 4294967296) : bits .and .u32 (n : Int) 1 = (n : Int) % 2 := by
  have h := u32_and_nat n 1 hn (by omega)
  rw [nat_mask1] at h
  have e : ((1 : Nat) : Int) = 1 := rfl
  rw [e] at h
  rw [h]; omega

theorem shiftByte_any (n : Nat) (hn : n < 4294967296) (w : World) :
    Calls Tryz.prog 112 #[.int .u32 (n : Int)] w fun e w' => e = .returned (.int .u32 ((shN 8 n : Nat) : Int)) ∧ w = w' := by
  go_enter Tryz.func112, Tryz.ntmps112
  go_wp2
  go_loop [0, 4] (fun r i => ∃ k : Nat, k ≤ 8 ∧ i = .int .i64 k ∧ r = .int .u32 ((shN k n : Nat) : Int)) (fun _ i => 8 - (intOf i).toNat)
  case atStart => exact ⟨0, by omega, rfl, rfl⟩
  case round =>
    obtain ⟨k, hk, rfl, rfl⟩ := hrel
    have hlt := shN_lt k hn
    have ha := u32_and1 (shN k n) hlt
    go_wp2
    · go_round
      case rel => exact ⟨k + 1, by omega, by go_num, val_int (sh_odd hlt ‹_›)⟩
      case measure => simp [intOf]; omega
    · go_round
      case rel => exact ⟨k + 1, by omega, by go_num, val_int (sh_evn ‹_›)⟩
      case measure => simp [intOf]; omega
    · go_ret
      obtain rfl : k = 8 := by omega
      exact ⟨rfl, rfl⟩

theorem come_step (r : Nat) {zs : List Int} {k : Nat} (h : k < zs.length) : come r (zs.take (k + 1)) = upd (come r (zs.take k)) (zs.getD k 0) := by
  rw [take_snoc zs k h, come_snoc]

def hv (c j : Nat) : Nat := c / 2 ^ j
theorem hv_succ (c j : Nat) : ((hv c j : Nat) : Int) / 2 = ((hv c (j + 1) : Nat) : Int) := by
  unfold hv; rw [Nat.pow_succ, ← Nat.div_div_eq_div_mul]; omega
theorem hv_lt {c : Nat} (j : Nat) (h : c < 256) : hv c j < 256 := Nat.lt_of_le_of_lt (Nat.div_le_self _ _) h
theorem rb_step {r c : Nat} (j : Nat) : sh (rb j r c ^^^ hv c j % 2) = rb (j + 1) r c := rfl
theorem u32_xbit (a b : Nat) (ha : a < 4294967296) : bits .xor .u32 (a : Int) ((b : Int) % 2) = ((a ^^^ b % 2 : Nat) : Int) :=
  u32_xor_nat a (b % 2) ha (by omega)
theorem u32_xbyte (a b : Nat) (ha : a < 4294967296) (hb : b < 256) : bits .xor .u32 (a : Int) (b : Int) = ((a ^^^ b : Nat) : Int) :=
  u32_xor_nat a b ha (by omega)
theorem come_rb {r : Nat} {zs : List Int} {k c : Nat} (h : k < zs.length) (hc : c < 256) (e : zs.getD k 0 = (c : Int)) : rb 8 (come r (zs.take k)) c = come r (zs.take (k + 1)) := by
  rw [come_step r h, e, rb8 _ _ hc]; rfl
theorem come_all (r : Nat) {zs : List Int} {k : Nat} (h : ¬ k < zs.length) : come r (zs.take k) = come r zs := by
  rw [List.take_of_length_le (by omega)]

end Go.Proofs.YtkppliljlcihmaaGreatDoor.Crc
namespace Go.Proofs.YtkppliljlcihmaaGreatDoor.Crc
open Go.Proofs.YtkppliljlcihmaaGreatDoor.Mem
open Go.ChangeShapes Go.WideShapes Go.ChangeAt Go.RowKit
set_option linter.unusedVariables false

theorem u32_not (s : Nat) (hs : s < 4294967296) : bits .xor .u32 IntKind.u32.max (s : Int) = ((neg32 s : Nat) : Int) := by
  show IntKind.u32.wrap ((BitVec.ofInt 32 IntKind.u32.max ^^^ BitVec.ofInt 32 (s : Int)).toNat : Int) = _
  have h1 : BitVec.ofInt 32 IntKind.u32.max = BitVec.allOnes 32 := by decide
  rw [h1, BitVec.allOnes_xor, BitVec.toNat_not, ofInt_u32 s (by omega), IntKind.wrap_u32']
  unfold neg32
  omega
theorem upd_step {r : Nat} {zs : List Int} {k c : Nat} (h : k < zs.length) (e : zs.getD k 0 = (c : Int)) : shN 8 (come r (zs.take k) ^^^ c) = come r (zs.take (k + 1)) := by
  rw [come_step r h, e]; rfl

theorem add_any (s : Nat) (hs : s < 4294967296) (a : Option Addr) (len cap : Nat) (zs : List Int) (w : World) (hrow : Row w a len zs) (hm : len ≤ 140737488355328) :
    Calls Tryz.prog 101 #[.int .u32 (s : Int), .slice a len cap] w fun e w' => e = .returned (.int .u32 ((sumOf s zs : Nat) : Int)) ∧ w = w' := by
  obtain ⟨hl, hb, hc⟩ := hrow
  subst hl
  have hn := u32_not s hs
  go_enter Tryz.func101, Tryz.ntmps101
  go_wp2
  have HN := Lib.hid hn
  clear hn
  obtain ⟨r, hr⟩ : ∃ r, r = neg32 s := ⟨_, rfl⟩
  have hr32 := neg32_lt s
  have HR := Lib.hid hr
  rw [← hr] at hr32 ⊢
  clear hr
  go_loop [5, 7, 12] (fun r' _ i => ∃ k : Nat, k ≤ zs.length ∧ i = .int .i64 k ∧ r' = .int .u32 ((come r (zs.take k) : Nat) : Int)) (fun _ _ i => zs.length - (intOf i).toNat)
  case atStart => exact ⟨0, by omega, rfl, rfl⟩
  case round =>
    obtain ⟨k, hk, rfl, rfl⟩ := hrel
    have hcm := come_lt (r := r) hr32 (bytes_take hb k)
    by_cases hlt : k < zs.length
    · obtain ⟨b, off, rfl, _, hcell⟩ := hc (by omega)
      have hz := getD_byte hb hlt
      obtain ⟨c, hcb, hce⟩ : ∃ c : Nat, c < 256 ∧ zs.getD k 0 = (c : Int) := ⟨(zs.getD k 0).toNat, by omega, by omega⟩
      have hk0 := hcell k hlt
      rw [hce] at hk0
      have HE := Lib.hid (upd_step (r := r) hlt hce)
      clear hce hz hcell hc
      obtain ⟨R, hR⟩ : ∃ R, R = come r (zs.take k) := ⟨_, rfl⟩
      rw [← hR] at hcm HE ⊢
      clear hR
      have hx := u32_xbyte R c hcm hcb
      go_wp2_with (go_at_call 112; refine (shiftByte_any _ (xor_lt32 hcm (by omega)) _).mono ?_; rintro e w' ⟨rfl, rfl⟩)
      go_round
      case rel => exact ⟨k + 1, by omega, by go_num, by rw [HE.out]⟩
      case measure => simp [intOf]; omega
    · have HE := Lib.hid (come_all r hlt)
      have hnn := u32_not (come r (zs.take k)) hcm
      go_wp2
      go_ret
      exact ⟨ret_int (by rw [HE.out, HR.out]; rfl), rfl⟩

theorem sum_any (a : Option Addr) (len cap : Nat) (zs : List Int) (w : World) (hrow : Row w a len zs) (hm : len ≤ 140737488355328) :
    Calls Tryz.prog 70 #[.slice a len cap] w fun e w' => e = .returned (.int .u32 ((sumOf 0 zs : Nat) : Int)) ∧ w = w' := by
  go_enter Tryz.func70, Tryz.ntmps70
  go_wp2_with (go_at_call 101; refine (add_any 0 (by omega) _ _ _ zs _ hrow hm).mono ?_; rintro e w' ⟨rfl, rfl⟩)
  go_ret
  exact ⟨rfl, rfl⟩

def nine : List Int := [49, 50, 51, 52, 53, 54, 55, 56, 57]
theorem nine_bytes : Bytes nine := by
  intro z hz
  simp [nine] at hz
  omega
theorem row_nine (w : World) (fr : Nat × Nat) :
    Row (w.alloc (.cells #[.int .u8 49, .int .u8 50, .int .u8 51, .int .u8 52, .int .u8 53, .int .u8 54, .int .u8 55, .int .u8 56, .int .u8 57] 5 fr)) (some ⟨w.heap.size, 0, none⟩) 9 nine := by
  refine ⟨rfl, nine_bytes, fun _ => ⟨_, _, rfl, by simp, fun i hi => ?_⟩⟩
  rw [Nat.zero_add, World.cell?_alloc_mark]
  have h : i = 0 ∨ i = 1 ∨ i = 2 ∨ i = 3 ∨ i = 4 ∨ i = 5 ∨ i = 6 ∨ i = 7 ∨ i = 8 := by omega
  rcases h with rfl | rfl | rfl | rfl | rfl | rfl | rfl | rfl | rfl <;> rfl
theorem sum_nine (a : Option Addr) (w : World) (h : Row w a 9 nine) :
    Calls Tryz.prog 70 #[.slice a 9 9] w fun e w' => e = .returned (.int .u32 3421780262) ∧ w = w' := by
  have e : sumOf 0 nine = 3421780262 := sumOf_known
  have hs := sum_any a 9 9 nine w h (by omega)
  rw [e] at hs
  exact hs
theorem add_nil (w : World) :
    Calls Tryz.prog 101 #[.int .u32 0, .slice none 0 0] w fun e w' => e = .returned (.int .u32 0) ∧ w = w' := by
  have e : sumOf 0 [] = 0 := by decide +kernel
  have hs := add_any 0 (by omega) none 0 0 [] w Row.nil (by omega)
  rw [e] at hs
  exact hs

end Go.Proofs.YtkppliljlcihmaaGreatDoor.Crc

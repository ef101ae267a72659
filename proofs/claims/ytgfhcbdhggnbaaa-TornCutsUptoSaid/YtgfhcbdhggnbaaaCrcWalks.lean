/- What each function of layer 1 and of its reference returns, for every register below 2^32 and every slice of bytes that can be read: contracts, callees first. -/
import Derived.Test.YtgfhcbdhggnbaaaProg
import Derived.Test.YtgfhcbdhggnbaaaCrcMath
import Derived.WalkKit
import Derived.ProofKit
import Derived.Below
import Derived.Outline
import Derived.WalkSpells
import Derived.WalkLawsBesides
import Derived.LoopTactic
import Derived.Lib.Hide
namespace Go.Proofs.Ytgfhcbdhggnbaaa.Crc
open Go.Proofs.Ytgfhcbdhggnbaaa.Mem
open Go.ChangeShapes Go.WideShapes Go.ChangeAt Go.RowKit
set_option linter.unusedVariables false

theorem ret_int {k : IntKind} {a b : Int} (h : a = b) : Ending.returned (.int k a) = .returned (.int k b) := by rw [h]
theorem val_int {k : IntKind} {a b : Int} (h : a = b) : Value.int k a = .int k b := by rw [h]
theorem u32_xorP (n : Nat) (hn : n < 4294967296) : bits .xor .u32 ((n : Int) / 2) 3988292384 = ((n / 2 ^^^ 3988292384 : Nat) : Int) := by
  have h := u32_xor_nat (n / 2) 3988292384 (by omega) (by omega)
  rw [← h]
  congr 1
theorem sh_odd {n : Nat} (hn : n < 4294967296) (h : (((n : Int) % 2) == 1) = true) : bits .xor .u32 ((n : Int) / 2) 3988292384 = ((sh n : Nat) : Int) := by
  rw [u32_xorP n hn]
  have h1 : n % 2 = 1 := by simp at h; omega
  unfold sh; rw [if_pos h1]
theorem sh_evn {n : Nat} (h : (((n : Int) % 2) == 1) = false) : (n : Int) / 2 = ((sh n : Nat) : Int) := by
  have h1 : ¬ n % 2 = 1 := by simp at h; omega
  unfold sh; rw [if_neg h1]; omega
theorem u32_and1 (n : Nat) (hn : n < 4294967296) : bits .and .u32 (n : Int) 1 = (n : Int) % 2 := by
  have h := u32_and_nat n 1 hn (by omega)
  rw [nat_mask1] at h
  have e : ((1 : Nat) : Int) = 1 := rfl
  rw [e] at h
  rw [h]; omega

theorem shift_any (n : Nat) (hn : n < 4294967296) (w : World) :
    Calls Try.prog 41 #[.int .u32 (n : Int)] w fun e w' => e = .returned (.int .u32 ((sh n : Nat) : Int)) ∧ w = w' := by
  go_enter Try.func41, Try.ntmps41
  go_wp2
  · go_ret
    exact ⟨ret_int (sh_odd hn ‹_›), rfl⟩
  · go_ret
    exact ⟨ret_int (sh_evn ‹_›), rfl⟩

theorem shiftByte_any (n : Nat) (hn : n < 4294967296) (w : World) :
    Calls Try.prog 50 #[.int .u32 (n : Int)] w fun e w' => e = .returned (.int .u32 ((shN 8 n : Nat) : Int)) ∧ w = w' := by
  go_enter Try.func50, Try.ntmps50
  go_wp2
  go_loop [0, 4] (fun r i => ∃ k : Nat, k ≤ 8 ∧ i = .int .i64 k ∧ r = .int .u32 ((shN k n : Nat) : Int)) (fun _ i => 8 - (intOf i).toNat)
  case atStart => exact ⟨0, by omega, rfl, rfl⟩
  case round =>
    obtain ⟨k, hk, rfl, rfl⟩ := hrel
    have hlt := shN_lt k hn
    have ha := u32_and1 (shN k n) hlt
    go_wp2
    · go_round
      case rel => exact ⟨k + 1, by omega, by go_num, val_int (sh_odd hlt ‹_›)⟩
      case measure => simp [intOf]; omega
    · go_round
      case rel => exact ⟨k + 1, by omega, by go_num, val_int (sh_evn ‹_›)⟩
      case measure => simp [intOf]; omega
    · go_ret
      obtain rfl : k = 8 := by omega
      exact ⟨rfl, rfl⟩

theorem come_step (r : Nat) {zs : List Int} {k : Nat} (h : k < zs.length) : come r (zs.take (k + 1)) = upd (come r (zs.take k)) (zs.getD k 0) := by
  rw [take_snoc zs k h, come_snoc]

def hv (c j : Nat) : Nat := c / 2 ^ j
theorem hv_succ (c j : Nat) : ((hv c j : Nat) : Int) / 2 = ((hv c (j + 1) : Nat) : Int) := by
  unfold hv; rw [Nat.pow_succ, ← Nat.div_div_eq_div_mul]; omega
theorem hv_lt {c : Nat} (j : Nat) (h : c < 256) : hv c j < 256 := Nat.lt_of_le_of_lt (Nat.div_le_self _ _) h
theorem rb_step {r c : Nat} (j : Nat) : sh (rb j r c ^^^ hv c j % 2) = rb (j + 1) r c := rfl
theorem u32_xbit (a b : Nat) (ha : a < 4294967296) : bits .xor .u32 (a : Int) ((b : Int) % 2) = ((a ^^^ b % 2 : Nat) : Int) :=
  u32_xor_nat a (b % 2) ha (by omega)
theorem u32_xbyte (a b : Nat) (ha : a < 4294967296) (hb : b < 256) : bits .xor .u32 (a : Int) (b : Int) = ((a ^^^ b : Nat) : Int) :=
  u32_xor_nat a b ha (by omega)
theorem come_rb {r : Nat} {zs : List Int} {k c : Nat} (h : k < zs.length) (hc : c < 256) (e : zs.getD k 0 = (c : Int)) : rb 8 (come r (zs.take k)) c = come r (zs.take (k + 1)) := by
  rw [come_step r h, e, rb8 _ _ hc]; rfl
theorem come_all (r : Nat) {zs : List Int} {k : Nat} (h : ¬ k < zs.length) : come r (zs.take k) = come r zs := by
  rw [List.take_of_length_le (by omega)]

set_option maxRecDepth 100000 in
set_option maxHeartbeats 400000 in
theorem come_any (r : Nat) (hr : r < 4294967296) (a : Option Addr) (len cap : Nat) (zs : List Int) (w : World) (hrow : Row w a len zs) (hm : len ≤ 140737488355328) :
    Calls Try.prog 29 #[.int .u32 (r : Int), .slice a len cap] w fun e w' => e = .returned (.int .u32 ((come r zs : Nat) : Int)) ∧ w = w' := by
  obtain ⟨hl, hb, hc⟩ := hrow
  subst hl
  go_enter Try.func29, Try.ntmps29
  go_wp2
  go_loop [0, 5, 6, 7, 8] (fun r' i _ _ _ => ∃ k : Nat, k ≤ zs.length ∧ i = .int .i64 k ∧ r' = .int .u32 ((come r (zs.take k) : Nat) : Int)) (fun _ i _ _ _ => zs.length - (intOf i).toNat)
  case atStart => exact ⟨0, by omega, rfl, rfl⟩
  case round =>
    obtain ⟨k, hk, rfl, rfl⟩ := hrel
    by_cases hlt : k < zs.length
    · obtain ⟨b, off, rfl, _, hcell⟩ := hc (by omega)
      have hz := getD_byte hb hlt
      obtain ⟨c, hcb, hce⟩ : ∃ c : Nat, c < 256 ∧ zs.getD k 0 = (c : Int) := ⟨(zs.getD k 0).toNat, by omega, by omega⟩
      have hk0 := hcell k hlt
      rw [hce] at hk0
      have HE := Lib.hid (come_rb (r := r) hlt hcb hce)
      have hcm := come_lt (r := r) hr (bytes_take hb k)
      clear hce hz hcell hc
      obtain ⟨R, hR⟩ : ∃ R, R = come r (zs.take k) := ⟨_, rfl⟩
      rw [← hR] at hcm HE ⊢
      clear hR
      go_wp2
      go_loop [0, 6, 7, 8] (fun r' x i _ => ∃ j : Nat, j ≤ 8 ∧ i = .int .i64 j ∧ x = .int .u32 ((hv c j : Nat) : Int) ∧ r' = .int .u32 ((rb j R c : Nat) : Int)) (fun _ _ i _ => 8 - (intOf i).toNat)
      case atStart => exact ⟨0, by omega, rfl, by simp [hv], rfl⟩
      case round =>
        obtain ⟨j, hj, rfl, rfl, rfl⟩ := hrel
        have hlt := rb_lt (c := c) j hcm
        have hh := hv_lt j hcb
        have hx := u32_xbit (rb j R c) (hv c j) hlt
        by_cases hj8 : j < 8
        · go_wp2_with (go_at_call 41; refine (shift_any _ (xor_lt32 hlt (by omega)) _).mono ?_; rintro e w' ⟨rfl, rfl⟩)
          go_round
          case rel => exact ⟨j + 1, by omega, by go_num, val_int (hv_succ c j), rfl⟩
          case measure => simp [intOf]; omega
        · obtain rfl : j = 8 := by omega
          go_wp2
          go_round
          case rel => exact ⟨k + 1, by omega, by go_num, by rw [HE.out]⟩
          case measure => simp [intOf]; omega
    · have HE := Lib.hid (come_all r hlt)
      go_wp2
      go_ret
      exact ⟨ret_int (by rw [HE.out]), rfl⟩

end Go.Proofs.Ytgfhcbdhggnbaaa.Crc

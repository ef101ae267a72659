/- Contracts of crc.Add, crc.Sum and the reference's Sum: for every sum below 2^32 and every slice of bytes that can be read they return the sum, and leave the world alone. -/
import Derived.Test.YtgfhcbdhggnbaaaCrcWalks
import Derived.Lib.SlBytesConst
namespace Go.Proofs.Ytgfhcbdhggnbaaa.Crc
open Go.Proofs.Ytgfhcbdhggnbaaa.Mem
open Go.ChangeShapes Go.WideShapes Go.ChangeAt Go.RowKit
set_option linter.unusedVariables false

theorem u32_not (s : Nat) (hs : s < 4294967296) : bits .xor .u32 IntKind.u32.max (s : Int) = ((neg32 s : Nat) : Int) := by
  show IntKind.u32.wrap ((BitVec.ofInt 32 IntKind.u32.max ^^^ BitVec.ofInt 32 (s : Int)).toNat : Int) = _
  have h1 : BitVec.ofInt 32 IntKind.u32.max = BitVec.allOnes 32 := by decide
  rw [h1, BitVec.allOnes_xor, BitVec.toNat_not, ofInt_u32 s (by omega), IntKind.wrap_u32']
  unfold neg32
  omega
theorem upd_step {r : Nat} {zs : List Int} {k c : Nat} (h : k < zs.length) (e : zs.getD k 0 = (c : Int)) : shN 8 (come r (zs.take k) ^^^ c) = come r (zs.take (k + 1)) := by
  rw [come_step r h, e]; rfl

theorem add_any (s : Nat) (hs : s < 4294967296) (a : Option Addr) (len cap : Nat) (zs : List Int) (w : World) (hrow : Row w a len zs) (hm : len ≤ 140737488355328) :
    Calls Try.prog 44 #[.int .u32 (s : Int), .slice a len cap] w fun e w' => e = .returned (.int .u32 ((sumOf s zs : Nat) : Int)) ∧ w = w' := by
  obtain ⟨hl, hb, hc⟩ := hrow
  subst hl
  have hn := u32_not s hs
  go_enter Try.func44, Try.ntmps44
  go_wp2
  have HN := Lib.hid hn
  clear hn
  obtain ⟨r, hr⟩ : ∃ r, r = neg32 s := ⟨_, rfl⟩
  have hr32 := neg32_lt s
  have HR := Lib.hid hr
  rw [← hr] at hr32 ⊢
  clear hr
  go_loop [5, 7, 12] (fun r' _ i => ∃ k : Nat, k ≤ zs.length ∧ i = .int .i64 k ∧ r' = .int .u32 ((come r (zs.take k) : Nat) : Int)) (fun _ _ i => zs.length - (intOf i).toNat)
  case atStart => exact ⟨0, by omega, rfl, rfl⟩
  case round =>
    obtain ⟨k, hk, rfl, rfl⟩ := hrel
    have hcm := come_lt (r := r) hr32 (bytes_take hb k)
    by_cases hlt : k < zs.length
    · obtain ⟨b, off, rfl, _, hcell⟩ := hc (by omega)
      have hz := getD_byte hb hlt
      obtain ⟨c, hcb, hce⟩ : ∃ c : Nat, c < 256 ∧ zs.getD k 0 = (c : Int) := ⟨(zs.getD k 0).toNat, by omega, by omega⟩
      have hk0 := hcell k hlt
      rw [hce] at hk0
      have HE := Lib.hid (upd_step (r := r) hlt hce)
      clear hce hz hcell hc
      obtain ⟨R, hR⟩ : ∃ R, R = come r (zs.take k) := ⟨_, rfl⟩
      rw [← hR] at hcm HE ⊢
      clear hR
      have hx := u32_xbyte R c hcm hcb
      go_wp2_with (go_at_call 50; refine (shiftByte_any _ (xor_lt32 hcm (by omega)) _).mono ?_; rintro e w' ⟨rfl, rfl⟩)
      go_round
      case rel => exact ⟨k + 1, by omega, by go_num, by rw [HE.out]⟩
      case measure => simp [intOf]; omega
    · have HE := Lib.hid (come_all r hlt)
      have hnn := u32_not (come r (zs.take k)) hcm
      go_wp2
      go_ret
      exact ⟨ret_int (by rw [HE.out, HR.out]; rfl), rfl⟩

theorem sum_any (a : Option Addr) (len cap : Nat) (zs : List Int) (w : World) (hrow : Row w a len zs) (hm : len ≤ 140737488355328) :
    Calls Try.prog 34 #[.slice a len cap] w fun e w' => e = .returned (.int .u32 ((sumOf 0 zs : Nat) : Int)) ∧ w = w' := by
  go_enter Try.func34, Try.ntmps34
  go_wp2_with (go_at_call 44; refine (add_any 0 (by omega) _ _ _ zs _ hrow hm).mono ?_; rintro e w' ⟨rfl, rfl⟩)
  go_ret
  exact ⟨rfl, rfl⟩

theorem refSum_any (a : Option Addr) (len cap : Nat) (zs : List Int) (w : World) (hrow : Row w a len zs) (hm : len ≤ 140737488355328) :
    Calls Try.prog 21 #[.slice a len cap] w fun e w' => e = .returned (.int .u32 ((sumOf 0 zs : Nat) : Int)) ∧ w = w' := by
  have hcm := come_lt (r := 4294967295) (by omega) hrow.2.1
  go_enter Try.func21, Try.ntmps21
  go_wp2_with (go_at_call 29; refine (come_any 4294967295 (by omega) _ _ _ zs _ hrow hm).mono ?_; rintro e w' ⟨rfl, rfl⟩)
  go_ret
  refine ⟨ret_int ?_, rfl⟩
  have e1 : sumOf 0 zs = 4294967295 - come 4294967295 zs := rfl
  rw [e1]; omega

def nine : List Int := [49, 50, 51, 52, 53, 54, 55, 56, 57]
theorem nine_bytes : Bytes nine := by
  intro z hz
  simp [nine] at hz
  omega
theorem row_nine (w : World) (fr : Nat × Nat) :
    Row (w.alloc (.cells #[.int .u8 49, .int .u8 50, .int .u8 51, .int .u8 52, .int .u8 53, .int .u8 54, .int .u8 55, .int .u8 56, .int .u8 57] 5 fr)) (some ⟨w.heap.size, 0, none⟩) 9 nine := by
  refine ⟨rfl, nine_bytes, fun _ => ⟨_, _, rfl, by simp, fun i hi => ?_⟩⟩
  rw [Nat.zero_add, World.cell?_alloc_mark]
  have h : i = 0 ∨ i = 1 ∨ i = 2 ∨ i = 3 ∨ i = 4 ∨ i = 5 ∨ i = 6 ∨ i = 7 ∨ i = 8 := by omega
  rcases h with rfl | rfl | rfl | rfl | rfl | rfl | rfl | rfl | rfl <;> rfl
theorem sum_nine (a : Option Addr) (w : World) (h : Row w a 9 nine) :
    Calls Try.prog 34 #[.slice a 9 9] w fun e w' => e = .returned (.int .u32 3421780262) ∧ w = w' := by
  have e : sumOf 0 nine = 3421780262 := sumOf_known
  have hs := sum_any a 9 9 nine w h (by omega)
  rw [e] at hs
  exact hs
theorem add_nil (w : World) :
    Calls Try.prog 44 #[.int .u32 0, .slice none 0 0] w fun e w' => e = .returned (.int .u32 0) ∧ w = w' := by
  have e : sumOf 0 [] = 0 := by decide +kernel
  have hs := add_any 0 (by omega) none 0 0 [] w Row.nil (by omega)
  rw [e] at hs
  exact hs

end Go.Proofs.Ytgfhcbdhggnbaaa.Crc

/- What each function of layer 3 and of its reference returns, for every text and every number of places: contracts, callees first. -/
import Derived.Test.YtabclecfamkanaaDoorProg
import Derived.Test.YtabclecfamkanaaDoorFnvMath
import Derived.WalkKit
import Derived.ProofKit
import Derived.Below
import Derived.Outline
import Derived.WalkSpells
import Derived.WalkLawsBesides
import Derived.LoopTactic
import Derived.Lib.Hide
namespace Go.Proofs.YtabclecfamkanaaDoor.Fnv
open Go.Proofs.YtabclecfamkanaaDoor.Mem
open Go.ChangeShapes Go.WideShapes Go.ChangeAt Go.RowKit
set_option linter.unusedVariables false

theorem ret_int {k : IntKind} {a b : Int} (h : a = b) : Ending.returned (.int k a) = .returned (.int k b) := by rw [h]
theorem val_int {k : IntKind} {a b : Int} (h : a = b) : Value.int k a = .int k b := by rw [h]
theorem mul_step {R V : Nat} {x : UInt8} (hR : R < 18446744073709551616) (h : V = (R ^^^ x.toNat) * 1099511628211 % 18446744073709551616) : IntKind.u64.wrap (bits .xor .u64 (R : Int) (x.toNat : Int) * 1099511628211) = (V : Int) := by
  have hc := x.toNat_lt
  rw [u64_xor_nat R x.toNat hR (by omega), IntKind.wrap_u64, h]
  omega

set_option maxRecDepth 100000 in
set_option maxHeartbeats 400000 in
theorem hash_any (s : ByteArray) (hs : s.size ≤ 140737488355328) (w : World) :
    Calls Tryd.prog 54 #[.string s] w fun e w' => e = .returned (.int .u64 ((hashOf s : Nat) : Int)) ∧ w = w' := by
  go_enter Tryd.func54, Tryd.ntmps54
  go_wp2
  go_loop [3, 7] (fun r i => ∃ (k R : Nat), k ≤ s.size ∧ i = .int .i64 (k : Int) ∧ r = .int .u64 (R : Int) ∧ R = come 14695981039346656037 ((strBytes s).take k)) (fun _ i => s.size - (intOf i).toNat)
  case atStart => exact ⟨0, 14695981039346656037, by omega, rfl, rfl, rfl⟩
  case round =>
    obtain ⟨k, R, hk, rfl, rfl, hR⟩ := hrel
    have hlt : R < 18446744073709551616 := by rw [hR]; exact come_lt (by omega) _
    have HR := Lib.hid hR
    clear hR
    by_cases hk8 : k < s.size
    · have hc := (s[k]).toNat_lt
      have hstep := come_step 14695981039346656037 s hk8
      rw [← HR.out] at hstep
      obtain ⟨V, hV⟩ : ∃ V, V = come 14695981039346656037 ((strBytes s).take (k + 1)) := ⟨_, rfl⟩
      rw [← hV] at hstep
      have HV := Lib.hid hV
      have HM := Lib.hid (mul_step (R := R) (V := V) (x := s[k]) hlt hstep)
      clear hstep hV
      go_wp2
      go_round
      case rel => 
        refine ⟨k + 1, V, by omega, by go_num, ?_, HV.out⟩
        have hm := HM.out
        rw [hm]
      case measure => simp [intOf]; omega
    · have HE := Lib.hid (strBytes_all s hk8)
      go_wp2
      go_ret
      refine ⟨ret_int ?_, rfl⟩
      rw [HR.out, HE.out]
      rfl
set_option maxRecDepth 100000 in
set_option maxHeartbeats 400000 in
theorem refHash_any (s : ByteArray) (hs : s.size ≤ 140737488355328) (w : World) :
    Calls Tryd.prog 34 #[.string s] w fun e w' => e = .returned (.int .u64 ((hashOf s : Nat) : Int)) ∧ w = w' := by
  go_enter Tryd.func34, Tryd.ntmps34
  go_wp2
  go_loop [3, 4] (fun r i => ∃ (k R : Nat), k ≤ s.size ∧ i = .int .i64 (k : Int) ∧ r = .int .u64 (R : Int) ∧ R = come 14695981039346656037 ((strBytes s).take k)) (fun _ i => s.size - (intOf i).toNat)
  case atStart => exact ⟨0, 14695981039346656037, by omega, rfl, rfl, rfl⟩
  case round =>
    obtain ⟨k, R, hk, rfl, rfl, hR⟩ := hrel
    have hlt : R < 18446744073709551616 := by rw [hR]; exact come_lt (by omega) _
    have HR := Lib.hid hR
    clear hR
    by_cases hk8 : k < s.size
    · have hc := (s[k]).toNat_lt
      have hstep := come_step 14695981039346656037 s hk8
      rw [← HR.out] at hstep
      obtain ⟨V, hV⟩ : ∃ V, V = come 14695981039346656037 ((strBytes s).take (k + 1)) := ⟨_, rfl⟩
      rw [← hV] at hstep
      have HV := Lib.hid hV
      have HM := Lib.hid (mul_step (R := R) (V := V) (x := s[k]) hlt hstep)
      clear hstep hV
      go_wp2
      go_round
      case rel => 
        refine ⟨k + 1, V, by omega, by go_num, ?_, HV.out⟩
        have hm := HM.out
        rw [hm]
      case measure => simp [intOf]; omega
    · have HE := Lib.hid (strBytes_all s hk8)
      go_wp2
      go_ret
      refine ⟨ret_int ?_, rfl⟩
      rw [HR.out, HE.out]
      rfl

theorem may_yes {p : Int} (hp : Pow p) (w : World) :
    Calls Tryd.prog 53 #[.int .i64 p] w fun e w' => e = .returned (.bool true) ∧ w = w' := by
  obtain ⟨k, hk, rfl⟩ := hp
  have h1 := pow_le hk
  have h2 := pow_and k
  obtain ⟨P, hP⟩ : ∃ P, P = 2 ^ k := ⟨_, rfl⟩
  rw [← hP] at h1 h2 ⊢
  clear hP
  have hb := i64_and_nat P (P - 1) (by omega) (by omega)
  rw [h2, show ((P - 1 : Nat) : Int) = (P : Int) - 1 by omega] at hb
  clear h2
  go_enter Tryd.func53, Tryd.ntmps53
  go_wp2
  go_ret
  exact ⟨rfl, rfl⟩
theorem may_no {p : Int} (h0 : -9223372036854775808 ≤ p) (h9 : p ≤ 9223372036854775807) (hp : ¬ Pow p) (w : World) :
    Calls Tryd.prog 53 #[.int .i64 p] w fun e w' => e = .returned (.bool false) ∧ w = w' := by
  by_cases h1 : 1 ≤ p ∧ p ≤ 1073741824
  · obtain ⟨P, rfl⟩ : ∃ P : Nat, p = (P : Int) := ⟨p.toNat, by omega⟩
    have h2 : (P &&& (P - 1)) ≠ 0 := fun h => hp (pow_of_and (by omega) (by omega) h)
    have hb := i64_and_nat P (P - 1) (by omega) (by omega)
    rw [show ((P - 1 : Nat) : Int) = (P : Int) - 1 by omega] at hb
    obtain ⟨X, hX⟩ : ∃ X, X = (P &&& (P - 1)) := ⟨_, rfl⟩
    rw [← hX] at hb h2
    clear hX hp
    have h3 : ((X : Int) == 0) = false := by simp; omega
    go_enter Tryd.func53, Tryd.ntmps53
    go_wp2
    go_ret
    exact ⟨rfl, rfl⟩
  · clear hp
    by_cases h2 : 1 ≤ p
    · have h3 : 1073741824 < p := by omega
      go_enter Tryd.func53, Tryd.ntmps53
      go_wp2
      go_ret
      exact ⟨rfl, rfl⟩
    · go_enter Tryd.func53, Tryd.ntmps53
      go_wp2
      go_ret
      exact ⟨rfl, rfl⟩

/- The home of a text among p places. -/
def homeOf (s : ByteArray) (p : Int) : Int := (hashOf s : Int) % p
theorem home_and {h P k : Nat} (hh : h < 18446744073709551616) (hk : k ≤ 30) (hP : P = 2 ^ k) : bits .and .u64 (h : Int) ((P : Int) - 1) = (h : Int) % (P : Int) := by
  have h1 := pow_le hk
  rw [← hP] at h1
  have hb := u64_and_nat h (P - 1) hh (by omega)
  rw [show ((P - 1 : Nat) : Int) = (P : Int) - 1 by omega] at hb
  rw [hb, hP, Nat.and_two_pow_sub_one_eq_mod]
  simp
theorem home_yes (s : ByteArray) (hs : s.size ≤ 140737488355328) {p : Int} (hp : Pow p) (w : World) :
    Calls Tryd.prog 39 #[.string s, .int .i64 p] w fun e w' => e = .returned (.int .i64 (homeOf s p)) ∧ w = w' := by
  have hp' := Lib.hid hp
  obtain ⟨k, hk, hpk⟩ := hp
  have h1 := pow_le hk
  obtain ⟨P, hP⟩ : ∃ P, P = 2 ^ k := ⟨_, rfl⟩
  rw [← hP] at h1 hpk
  subst hpk
  have hb := home_and (hashOf_lt s) hk hP
  clear hP
  have hm : 0 ≤ (hashOf s : Int) % (P : Int) ∧ (hashOf s : Int) % (P : Int) < (P : Int) := ⟨Int.emod_nonneg _ (by omega), Int.emod_lt_of_pos _ (by omega)⟩
  unfold homeOf
  obtain ⟨M, hM⟩ : ∃ M, M = (hashOf s : Int) % (P : Int) := ⟨_, rfl⟩
  rw [← hM] at hb hm ⊢
  clear hM
  go_enter Tryd.func39, Tryd.ntmps39
  go_wp2_with fail
  refine (may_yes hp'.out w).mono ?_
  rintro e w' ⟨rfl, rfl⟩
  go_wp2_with fail
  refine (hash_any s hs w).mono ?_
  rintro e w' ⟨rfl, rfl⟩
  obtain ⟨H, hH⟩ : ∃ H, H = hashOf s := ⟨_, rfl⟩
  rw [← hH] at hb ⊢
  clear hH
  go_wp2_with fail
  go_ret
  exact ⟨rfl, rfl⟩
theorem home_no (s : ByteArray) {p : Int} (h0 : -9223372036854775808 ≤ p) (h9 : p ≤ 9223372036854775807) (hp : ¬ Pow p) (w : World) :
    Calls Tryd.prog 39 #[.string s, .int .i64 p] w fun e w' => e = .returned (.int .i64 0) ∧ w = w' := by
  have hp' := Lib.hid hp
  clear hp
  go_enter Tryd.func39, Tryd.ntmps39
  go_wp2_with fail
  refine (may_no h0 h9 hp'.out w).mono ?_
  rintro e w' ⟨rfl, rfl⟩
  go_wp2_with fail
  go_ret
  exact ⟨rfl, rfl⟩
set_option maxRecDepth 100000 in
set_option maxHeartbeats 400000 in
theorem refHome_yes (s : ByteArray) (hs : s.size ≤ 140737488355328) {p : Int} (hp : Pow p) (w : World) :
    Calls Tryd.prog 26 #[.string s, .int .i64 p] w fun e w' => e = .returned (.int .i64 (homeOf s p)) ∧ w = w' := by
  obtain ⟨k, hk, hpk⟩ := hp
  have h1 := pow_le hk
  obtain ⟨P, hP⟩ : ∃ P, P = 2 ^ k := ⟨_, rfl⟩
  rw [← hP] at h1 hpk
  subst hpk
  have HP := Lib.hid hP
  clear hP
  have hm : 0 ≤ (hashOf s : Int) % (P : Int) ∧ (hashOf s : Int) % (P : Int) < (P : Int) := ⟨Int.emod_nonneg _ (by omega), Int.emod_lt_of_pos _ (by omega)⟩
  unfold homeOf
  go_enter Tryd.func26, Tryd.ntmps26
  go_wp2
  go_loop [5] (fun r => ∃ (j R : Nat), j ≤ k ∧ r = .int .i64 (R : Int) ∧ R = 2 ^ j) (fun r => P - (intOf r).toNat)
  case atStart => exact ⟨0, 1, by omega, rfl, rfl⟩
  case round =>
    obtain ⟨j, R, hj, rfl, hR⟩ := hrel
    have hr := pow_le (Nat.le_trans hj hk)
    rw [← hR] at hr
    by_cases hjk : j < k
    · have hlt : R < P := by rw [hR, HP.out]; exact Nat.pow_lt_pow_right (by omega) hjk
      have h2 : 2 * R = 2 ^ (j + 1) := by rw [hR, Nat.pow_succ]; omega
      have H2 := Lib.hid h2
      have hq : (R : Int) < 1073741824 := by omega
      have hq2 : (R : Int) < (P : Int) := by omega
      have hq0 : (1 : Int) ≤ (R : Int) := by omega
      clear h2 hR
      go_wp2
      go_round
      case rel => exact ⟨j + 1, 2 * R, by omega, val_int (by omega), H2.out⟩
      case measure => simp [intOf]; omega
    · obtain rfl : j = k := by omega
      rw [← HP.out] at hR
      subst hR
      go_wp2_with fail
      refine (refHash_any s hs w).mono ?_
      rintro e w' ⟨rfl, rfl⟩
      obtain ⟨H, hH⟩ : ∃ H, H = hashOf s := ⟨_, rfl⟩
      rw [← hH] at hm ⊢
      have HH := Lib.hid hH
      clear hH
      go_wp2_with fail
      go_ret
      exact ⟨ret_int (by rw [← HH.out]), rfl⟩
set_option maxRecDepth 100000 in
set_option maxHeartbeats 400000 in
theorem refHome_no (s : ByteArray) {p : Int} (h0 : -9223372036854775808 ≤ p) (h9 : p ≤ 9223372036854775807) (hp : ¬ Pow p) (w : World) :
    Calls Tryd.prog 26 #[.string s, .int .i64 p] w fun e w' => e = .returned (.int .i64 0) ∧ w = w' := by
  have hp' := Lib.hid hp
  clear hp
  go_enter Tryd.func26, Tryd.ntmps26
  go_wp2
  go_loop [5] (fun r => ∃ (j R : Nat), j ≤ 30 ∧ r = .int .i64 (R : Int) ∧ R = 2 ^ j) (fun r => 1073741824 - (intOf r).toNat)
  case atStart => exact ⟨0, 1, by omega, rfl, rfl⟩
  case round =>
    obtain ⟨j, R, hj, rfl, hR⟩ := hrel
    have hr := pow_le hj
    rw [← hR] at hr
    have hne : ¬ ((R : Int) = p) := fun h => hp'.out ⟨j, hj, by rw [← h, hR]⟩
    by_cases hjk : (R : Int) < p ∧ R < 1073741824
    · have hj30 : j < 30 := by
        refine Nat.lt_of_le_of_ne hj (fun h => ?_)
        subst h
        have : R = 1073741824 := hR
        omega
      have h2 : 2 * R = 2 ^ (j + 1) := by rw [hR, Nat.pow_succ]; omega
      have H2 := Lib.hid h2
      clear h2 hR
      obtain ⟨ha, hb⟩ := hjk
      have hq : (R : Int) < 1073741824 := by omega
      have hq0 : (1 : Int) ≤ (R : Int) := by omega
      clear hb hr
      go_wp2
      go_round
      case rel => exact ⟨j + 1, 2 * R, by omega, val_int (by omega), H2.out⟩
      case measure => simp [intOf]; omega
    · by_cases ha : (R : Int) < p
      · have hb : ¬ R < 1073741824 := fun h => hjk ⟨ha, h⟩
        obtain ⟨X, hX⟩ : ∃ X : Int, X = (R : Int) := ⟨_, rfl⟩
        rw [← hX] at ha hne ⊢
        have hq : (1073741824 : Int) ≤ X := by omega
        clear hX
        have hne2 : (X == p) = false := by simp; omega
        clear hR hjk hb hr
        go_wp2_with fail
        go_ret
        exact ⟨rfl, rfl⟩
      · clear hR hjk
        go_wp2_with fail
        go_ret
        exact ⟨rfl, rfl⟩
end Go.Proofs.YtabclecfamkanaaDoor.Fnv

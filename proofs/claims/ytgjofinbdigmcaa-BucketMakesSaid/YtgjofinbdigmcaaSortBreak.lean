/- A range turned round; patterns broken. -/
import Derived.Test.YtgjofinbdigmcaaSrtA
import Derived.Test.YtgjofinbdigmcaaSortPivot
import Derived.Test.YtgjofinbdigmcaaSrtXor
namespace Go.Proofs.Ytgjofinbdigmcaa.Srt
open Go.Proofs.Ytgjofinbdigmcaa.Mem
open Go.RowKit Go.Sort
set_option linter.unusedVariables false
set_option linter.unusedSimpArgs false
theorem but_set (w : World) (p i : Nat) (u : Value) : But (fun k => k = p) w (w.setCell ⟨p, i, none⟩ u) := (But.refl (fun k => k = p) w).setCell (p := ⟨p, i, none⟩) rfl u
section
variable {w0 w w' : World} {blk off N : Nat} {d0 d d' : Array Int}
set_option maxRecDepth 100000 in
set_option maxHeartbeats 1000000 in
theorem rev_any (h : RW w0 blk off N d0 d w) (cap : Nat) {a b : Nat} (hab : a < b) (hb : b ≤ N) : Calls Try.prog 77 #[.slice (some ⟨blk, off, none⟩) N cap, .int .i64 a, .int .i64 b] w fun e w' => e = .returned (.tuple #[]) ∧ RW w0 blk off N d0 (reverseRange d a b) w' := by
  have hN := h.base.few
  have H := Lib.hid h
  clear h
  go_enter Try.func77, Try.ntmps77
  go_wp2
  go_loopw [6, 7] (fun v u wr => ∃ (i j : Nat) (dk : Array Int), v = .int .i64 (i : Int) ∧ u = .int .i64 (j : Int) ∧ i ≤ b ∧ j < b ∧ RW w0 blk off N d0 dk wr ∧ reverseLoop i j dk = reverseRange d a b) (fun v u _ => (intOf u).toNat)
  case atStart => exact ⟨a, b - 1, d, rfl, by go_num, by omega, by omega, H.out, rfl⟩
  case round =>
    obtain ⟨i, j, dk, rfl, rfl, hi, hj, hR, hE⟩ := hrel
    have HR := Lib.hid hR
    have HE := Lib.hid hE
    clear hE
    by_cases hij : i < j
    · have hiji : (i : Int) < (j : Int) := by omega
      have c1 := hR.cell (j := i) (by omega)
      have c2 := hR.cell (j := j) (by omega)
      have f1 := hR.frozen (j := i) (by omega)
      have f2 := hR.frozen (j := j) (by omega)
      obtain ⟨x, hx⟩ : ∃ x, x = dk[i]! := ⟨_, rfl⟩
      obtain ⟨y, hy⟩ : ∃ x, x = dk[j]! := ⟨_, rfl⟩
      rw [← hx] at c1
      rw [← hy] at c2
      have HX := Lib.hid (And.intro hx hy)
      clear hR hx hy
      go_wp2_with fail
      go_region
      have HS := Lib.hid (show RW w0 blk off N d0 (swp dk i j) ((wr.setCell ⟨blk, off + i, none⟩ (.int .u32 y)).setCell ⟨blk, off + j, none⟩ (.int .u32 x)) from by
        rw [HX.out.1, HX.out.2]
        exact HR.out.swp (by omega) (by omega))
      clear f1 f2 c1 c2
      generalize (wr.setCell ⟨blk, off + i, none⟩ (.int .u32 y)).setCell ⟨blk, off + j, none⟩ (.int .u32 x) = ws at HS ⊢
      go_wp2
      go_roundw
      case rel => exact ⟨i + 1, j - 1, _, by go_num, by go_num, by omega, by omega, HS.out.drew, by
        rw [← HE.out]
        conv => rhs; unfold reverseLoop
        rw [if_pos hij]⟩
      case measure => (simp [intOf] <;> omega)
    · have hiji : ¬ (i : Int) < (j : Int) := by omega
      clear hR
      go_wp2
      go_end0
      refine ⟨rfl, ?_⟩
      rw [← HE.out]
      unfold reverseLoop
      rw [if_neg hij]
      exact HR.out
/- So many rounds of it. -/
def bpN (a L M i0 : Nat) : Nat → UInt64 × Array Int → UInt64 × Array Int
  | 0, st => st
  | t + 1, st => breakStep a L M (bpN a L M i0 t st) (i0 + t)
theorem bp_eq (d : Array Int) (a L : Nat) (h8 : 8 ≤ L) : breakPatterns d a (a + L) = (bpN a L (1 <<< bitsLen L) (a + L / 4 * 2 - 1) 3 (UInt64.ofNat L, d)).2 := by
  unfold breakPatterns
  simp only [Nat.add_sub_cancel_left]
  rw [if_pos h8]
  rfl
theorem next_any (rb : Nat) (r : UInt64) (w : World) (hc : w.cell? ⟨rb, 0, none⟩ = some (.int .u64 (r.toNat : Int))) (hf : w.frozen? ⟨rb, 0, none⟩ = false) :
    Calls Try.prog 86 #[.pointer (some ⟨rb, 0, none⟩)] w fun e w' => e = .returned (.int .u64 ((xorNext r).toNat : Int)) ∧ w' = (w.setCell ⟨rb, 0, none⟩ (.int .u64 ((xorNext r).toNat : Int))).drewN 3 := by
  rw [xorNext_toNat]
  exact AnyF.xorshift_Next Try.xorNext rb 0 r.toNat r.toNat_lt w hc hf
theorem pow_any (n : Nat) (hn : n < 4611686018427387904) (w : World) : Calls Try.prog 85 #[.int .i64 n] w fun e w' => e = .returned (.int .u64 ((1 <<< bitsLen n : Nat) : Int)) ∧ w' = w := AnyF.nextPowerOfTwo Try.nextPow n hn w
set_option maxRecDepth 100000 in
set_option maxHeartbeats 2000000 in
theorem break_any (h : RW w0 blk off N d0 d w) (cap : Nat) {a b L : Nat} (hL : b = a + L) (h8 : 8 ≤ L) (hb : b ≤ N) : Calls Try.prog 75 #[.slice (some ⟨blk, off, none⟩) N cap, .int .i64 a, .int .i64 b] w fun e w' => e = .returned (.tuple #[]) ∧ RW w0 blk off N d0 (breakPatterns d a b) w' := by
  have hN := h.base.few
  have HE := Lib.hid (bp_eq d a L h8)
  rw [← hL] at HE
  have HP := Lib.hid (pow_any L (by omega))
  obtain ⟨M, hM⟩ : ∃ M : Nat, M = 1 <<< bitsLen L := ⟨_, rfl⟩
  rw [← hM] at HE HP
  have hM1 : 1 ≤ M := by rw [hM, Nat.one_shiftLeft]; exact Nat.two_pow_pos _
  have hM2 : M ≤ 2 * L := by rw [hM, Nat.one_shiftLeft]; exact two_pow_bitsLen_le (by omega)
  have hsub : (b : Int) - (a : Int) = (L : Int) := by omega
  have hq : (L : Int).tdiv 4 = ((L / 4 : Nat) : Int) := by rw [Int.tdiv_eq_ediv_of_nonneg (by omega)]; omega
  obtain ⟨q, hqq⟩ : ∃ q, q = L / 4 := ⟨_, rfl⟩
  rw [← hqq] at hq HE
  have hlq : 4 * q ≤ L ∧ 2 ≤ q := by omega
  have haN : a + L ≤ N := by omega
  have h8i : (8 : Int) ≤ (L : Int) := by omega
  have HS := Lib.hid (show RW w0 blk off N d0 d (w.alloc (.cells #[.int .u64 (L : Int)] 140)) ∧ Blk (w.alloc (.cells #[.int .u64 (L : Int)] 140)) w.heap.size 140 #[.int .u64 (L : Int)] ∧ w0.heap.size ≤ w.heap.size from ⟨h.alloc _, Blk.new w _ _, h.le⟩)
  obtain ⟨sp, hsp⟩ : ∃ sp, sp = w.heap.size := ⟨_, rfl⟩
  have HSP := Lib.hid hsp
  have hLL : (UInt64.ofNat L).toNat = L := by simp; omega
  clear hL hqq hsp h hM
  go_enter Try.func75, Try.ntmps75
  go_wp2_with (first | (go_at_call 85; refine (HP.out _).mono ?_; rintro e w' ⟨rfl, rfl⟩))
  rw [← HSP.out]
  rw [← HSP.out] at HS
  generalize w.alloc (.cells #[.int .u64 (L : Int)] 140) = w1 at HS ⊢
  have hlow := HS.out.2.2
  clear HSP
  go_loopw [9] (fun v wr => ∃ (t : Nat) (r : UInt64) (dk : Array Int), v = .int .i64 ((a : Int) + (q : Int) * 2 - 1 + (t : Int)) ∧ t ≤ 3 ∧ RW w0 blk off N d0 dk wr ∧ Blk wr sp 140 #[.int .u64 (r.toNat : Int)] ∧ bpN a L M (a + q * 2 - 1) t (UInt64.ofNat L, d) = (r, dk)) (fun v _ => ((a : Int) + (q : Int) * 2 + 2 - intOf v).toNat)
  case atStart => exact ⟨0, UInt64.ofNat L, d, by simp, by omega, HS.out.1, by rw [hLL]; exact HS.out.2.1, rfl⟩
  case round =>
    obtain ⟨t, r, dk, rfl, ht, hR, hB, hE⟩ := hrel
    have HEK := Lib.hid hE
    clear hE hLL
    by_cases ht3 : t < 3
    · have hti : (a : Int) + (q : Int) * 2 - 1 + (t : Int) ≤ (a : Int) + (q : Int) * 2 + 1 := by omega
      have HNX := Lib.hid (next_any sp r wr (hB.cell 0) (hB.frozen 0))
      obtain ⟨r2, hr2⟩ : ∃ r2, r2 = xorNext r := ⟨_, rfl⟩
      rw [← hr2] at HNX
      obtain ⟨R, hRR⟩ : ∃ R : Nat, R = r2.toNat := ⟨_, rfl⟩
      have lR : R < 18446744073709551616 := by rw [hRR]; exact r2.toNat_lt
      rw [← hRR] at HNX
      have HR2 := Lib.hid (show RW w0 blk off N d0 dk ((wr.setCell ⟨sp, 0, none⟩ (.int .u64 (R : Int))).drewN 3) ∧ Blk ((wr.setCell ⟨sp, 0, none⟩ (.int .u64 (R : Int))).drewN 3) sp 140 #[.int .u64 (R : Int)] from ⟨(hR.newer hlow _ _).drewN 3, hB.set_ 0 _⟩)
      have HRR := Lib.hid (And.intro hr2 hRR)
      generalize (wr.setCell ⟨sp, 0, none⟩ (.int .u64 (R : Int))).drewN 3 = w2 at HNX HR2
      clear hR hB hr2 hRR
      obtain ⟨O, hO⟩ : ∃ O : Nat, O = R &&& (M - 1) := ⟨_, rfl⟩
      have lO : O ≤ M - 1 := by rw [hO]; exact Nat.and_le_right
      have eAnd : bits .and .u64 (R : Int) ((M : Int) - 1) = (O : Int) := by
        rw [show ((M : Int) - 1) = ((M - 1 : Nat) : Int) by omega, bits_and_u64_nat _ _ lR (by omega), hO]
      have HO := Lib.hid hO
      clear hO
      obtain ⟨o, ho⟩ : ∃ o, o = if O ≥ L then O - L else O := ⟨_, rfl⟩
      have hoL : o < L := by rw [ho]; split <;> omega
      have Ho := Lib.hid ho
      clear ho
      go_upto_if 43 with (first | (go_at_call 86; refine HNX.out.mono ?_; rintro e w' ⟨rfl, hw⟩; obtain rfl : w2 = w' := hw.symm))
      go_cut [10] from 26 to 64 (fun v wx => v = .int .i64 (o : Int) ∧ w2 = wx)
      case first =>
        by_cases hOL : L ≤ O
        · have hOLi : (L : Int) ≤ (O : Int) := by omega
          go_wp2
          go_meet
          case rel => exact ⟨by rw [Ho.out, if_pos hOL]; go_num, rfl⟩
        · have hOLi : ¬ (L : Int) ≤ (O : Int) := by omega
          go_wp2
          go_meet
          case rel => exact ⟨by rw [Ho.out, if_neg hOL], rfl⟩
      case rest =>
        obtain ⟨rfl, rfl⟩ := hcut
        clear HNX eAnd
        obtain ⟨hR3, hB3⟩ := HR2.out
        obtain ⟨i, hi⟩ : ∃ i, i = a + q * 2 - 1 + t := ⟨_, rfl⟩
        have hii : (a : Int) + (q : Int) * 2 - 1 + (t : Int) = (i : Int) := by omega
        have hiN : i < N := by omega
        have HI := Lib.hid hi
        have c1 := hR3.cell (j := i) hiN
        have c2 := hR3.cell (j := a + o) (by omega)
        have f1 := hR3.frozen (j := i) hiN
        have f2 := hR3.frozen (j := a + o) (by omega)
        obtain ⟨x, hx⟩ : ∃ x, x = dk[i]! := ⟨_, rfl⟩
        obtain ⟨y, hy⟩ : ∃ x, x = dk[a + o]! := ⟨_, rfl⟩
        rw [← hx] at c1
        rw [← hy] at c2
        have HX := Lib.hid (And.intro hx hy)
        have g2 : (w2.setCell ⟨blk, off + i, none⟩ (.int .u32 y)).drew.cell? ⟨blk, off + (a + o), none⟩ = some (.int .u32 y) := twice hR3 hiN (by omega) c2 (by omega)
        clear hR3 hx hy hB3 hi
        go_wp2_with fail
        go_region
        have HS2 := Lib.hid (show RW w0 blk off N d0 (swp dk i (a + o)) ((w2.setCell ⟨blk, off + i, none⟩ (.int .u32 y)).setCell ⟨blk, off + (a + o), none⟩ (.int .u32 x)) ∧ Blk ((w2.setCell ⟨blk, off + i, none⟩ (.int .u32 y)).setCell ⟨blk, off + (a + o), none⟩ (.int .u32 x)) sp 140 #[.int .u64 (R : Int)] from by
          have hne : sp ≠ blk := by have := HR2.out.1.base.lt; omega
          refine ⟨by rw [HX.out.1, HX.out.2]; exact HR2.out.1.swp hiN (by omega), ?_⟩
          exact HR2.out.2.but ((but_set _ _ _ _).trans' (but_set _ _ _ _)) hne)
        clear f1 f2 c1 c2 g2
        generalize (w2.setCell ⟨blk, off + i, none⟩ (.int .u32 y)).setCell ⟨blk, off + (a + o), none⟩ (.int .u32 x) = ws at HS2 ⊢
        go_wp2
        go_roundw
        case rel => exact ⟨t + 1, r2, _, by go_num, by omega, HS2.out.1.drew, by rw [← HRR.out.2]; exact HS2.out.2, by
          show breakStep a L M (bpN a L M (a + q * 2 - 1) t (UInt64.ofNat L, d)) (a + q * 2 - 1 + t) = _
          rw [HEK.out]
          unfold breakStep
          have h1 := Ho.out
          rw [HO.out, HRR.out.2, HRR.out.1] at h1
          simp only [← HI.out]
          rw [HRR.out.1]
          rw [h1]⟩
        case measure => (simp [intOf] <;> omega)
    · have hti : ¬ (a : Int) + (q : Int) * 2 - 1 + (t : Int) ≤ (a : Int) + (q : Int) * 2 + 1 := by omega
      have HR := Lib.hid hR
      obtain rfl : t = 3 := by omega
      clear hR hB
      go_wp2
      go_end0
      refine ⟨rfl, ?_⟩
      rw [HE.out, HEK.out]
      exact HR.out
end
end Go.Proofs.Ytgjofinbdigmcaa.Srt

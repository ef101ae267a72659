/- cmp.Less at uint32; the insertion sort of a row. -/
import Derived.Test.YtciplhpnbpmfeaaSortAt
namespace Go.Proofs.Ytciplhpnbpmfeaa.Srt
open Go.Proofs.Ytciplhpnbpmfeaa.Mem
open Go.RowKit Go.Sort
set_option linter.unusedVariables false
set_option linter.unusedSimpArgs false
theorem nan_any (x : Int) (w : World) : Calls Try.prog 42 #[.int .u32 x] w fun e w' => e = .returned (.bool false) ∧ w = w' := by
  go_enter Try.func42, Try.ntmps42
  go_wp2
  go_ret
  exact ⟨rfl, rfl⟩
theorem less_any (x y : Int) (w : World) : Calls Try.prog 32 #[.int .u32 x, .int .u32 y] w fun e w' => e = .returned (.bool (ltInt x y)) ∧ w = w' := by
  have hn := Lib.hid nan_any
  go_enter Try.func32, Try.ntmps32
  go_wp2_with (first | (go_at_call 42; refine (hn.out _ _).mono ?_; rintro e w1 ⟨rfl, rfl⟩))
  go_ret
  exact ⟨rfl, rfl⟩
theorem less_q (x y : Int) (w : World) : Calls Try.prog 32 #[.int .u32 x, .int .u32 y] w fun e w' => e = .returned (.bool (ltInt x y)) ∧ w' = w := (less_any x y w).mono fun e w' h => ⟨h.1, h.2.symm⟩
section
variable {w0 w w' : World} {blk off N : Nat} {d0 d d' : Array Int}
set_option maxRecDepth 100000 in
set_option maxHeartbeats 1000000 in
theorem ins_any (h : RW w0 blk off N d0 d w) (cap : Nat) {a b : Nat} (hab : a ≤ b) (hb : b ≤ N) : Calls Try.prog 26 #[.slice (some ⟨blk, off, none⟩) N cap, .int .i64 a, .int .i64 b] w fun e w' => e = .returned (.tuple #[]) ∧ RW w0 blk off N d0 (insertionSort ltInt d a b) w' := by
  have hl := Lib.hid less_any
  have hN := h.base.few
  have H := Lib.hid h
  clear h
  go_enter Try.func26, Try.ntmps26
  go_wp2
  go_loopw [6] (fun v wr => ∃ (i : Nat) (dk : Array Int), v = .int .i64 (i : Int) ∧ a < i ∧ i ≤ b + 1 ∧ RW w0 blk off N d0 dk wr ∧ insOuter ltInt a b i dk = insertionSort ltInt d a b) (fun v _ => b + 1 - (intOf v).toNat)
  case atStart => exact ⟨a + 1, d, by go_num, by omega, by omega, H.out, rfl⟩
  case round =>
    obtain ⟨i, dk, rfl, hai, hib, hR, hE⟩ := hrel
    have HR := Lib.hid hR
    have HE := Lib.hid hE
    clear hR hE
    by_cases hlt : i < b
    · have hlti : (i : Int) < (b : Int) := by omega
      go_wp2
      go_loopw [7] (fun v wr => ∃ (j : Nat) (dj : Array Int), v = .int .i64 (j : Int) ∧ a ≤ j ∧ j ≤ i ∧ RW w0 blk off N d0 dj wr ∧ insInner ltInt a j dj = insInner ltInt a i dk) (fun v _ => (intOf v).toNat)
      case atStart => exact ⟨i, dk, rfl, by omega, by omega, HR.out, rfl⟩
      case round =>
        obtain ⟨j, dj, rfl, haj, hji, hR, hE⟩ := hrel
        have HRJ := Lib.hid hR
        have HEJ := Lib.hid hE
        clear hE
        by_cases hja : a < j
        · have hjai : (a : Int) < (j : Int) := by omega
          have c1 := hR.cell (j := j) (by omega)
          have c2 := hR.cell (j := j - 1) (by omega)
          obtain ⟨x, hx⟩ : ∃ x, x = dj[j]! := ⟨_, rfl⟩
          obtain ⟨y, hy⟩ : ∃ x, x = dj[j - 1]! := ⟨_, rfl⟩
          rw [← hx] at c1
          rw [← hy] at c2
          have HX := Lib.hid (And.intro hx hy)
          clear hR hx hy
          go_wp2_with fail
          go_quiet ((go_at_call 32; exact Calls.quiet_of_same (less_q _ _ _)))
          have HRQ := Lib.hid (HRJ.out.drewN nq)
          have f1 := HRQ.out.frozen (j := j) (by omega)
          have f2 := HRQ.out.frozen (j := j - 1) (by omega)
          have q1 : (wr.drewN nq).cell? ⟨blk, off + j, none⟩ = some (.int .u32 x) := c1
          have q2 : (wr.drewN nq).cell? ⟨blk, off + (j - 1), none⟩ = some (.int .u32 y) := c2
          clear c1 c2
          generalize wr.drewN nq = wq at HRQ f1 f2 q1 q2 ⊢
          rcases Bool.eq_false_or_eq_true (ltInt x y) with hxy | hxy
          · have HXY := Lib.hid hxy
            rw [hxy]
            clear hxy
            go_wp2_with fail
            go_region
            have HS := Lib.hid (show RW w0 blk off N d0 (swp dj j (j - 1)) ((wq.setCell ⟨blk, off + j, none⟩ (.int .u32 y)).setCell ⟨blk, off + (j - 1), none⟩ (.int .u32 x)) from by
              rw [HX.out.1, HX.out.2]
              exact HRQ.out.swp (by omega) (by omega))
            clear f1 f2 q1 q2
            generalize (wq.setCell ⟨blk, off + j, none⟩ (.int .u32 y)).setCell ⟨blk, off + (j - 1), none⟩ (.int .u32 x) = ws at HS ⊢
            go_wp2
            go_roundw
            case rel => exact ⟨j - 1, swp dj j (j - 1), by go_num, by omega, by omega, HS.out.drew, by
              rw [← HEJ.out]
              obtain ⟨k, rfl⟩ : ∃ k, j = k + 1 := ⟨j - 1, by omega⟩
              have e1 : (decide (k + 1 > a) && ltInt dj[k + 1]! dj[k]!) = true := by
                have h1 := HX.out
                have h2 := HXY.out
                rw [h1.1, h1.2] at h2
                simp only [Nat.add_sub_cancel] at h2
                rw [h2]; simp; omega
              simp only [Nat.add_sub_cancel]
              conv => rhs; unfold insInner
              rw [if_pos e1]⟩
            case measure => simp [intOf]; omega
          · have HXY := Lib.hid hxy
            rw [hxy]
            clear hxy f1 f2 q1 q2
            have HO := Lib.hid (show insOuter ltInt a b (i + 1) dj = insertionSort ltInt d a b from by
              have e1 : insInner ltInt a j dj = dj := by
                obtain ⟨k, rfl⟩ : ∃ k, j = k + 1 := ⟨j - 1, by omega⟩
                have h1 := HX.out
                have h2 := HXY.out
                rw [h1.1, h1.2] at h2
                simp only [Nat.add_sub_cancel] at h2
                unfold insInner
                rw [if_neg (by rw [h2]; simp)]
              rw [← HE.out]
              conv => rhs; unfold insOuter
              rw [if_pos hlt, ← HEJ.out, e1])
            go_wp2
            go_roundw
            case rel => exact ⟨i + 1, dj, by go_num, by omega, by omega, HRQ.out, HO.out⟩
            case measure => simp [intOf]; omega
        · have hjai : ¬ (a : Int) < (j : Int) := by omega
          have HO := Lib.hid (show insOuter ltInt a b (i + 1) dj = insertionSort ltInt d a b from by
            have e1 : insInner ltInt a j dj = dj := by
              cases j with
              | zero => rfl
              | succ k =>
                unfold insInner
                rw [if_neg (by simp; omega)]
            rw [← HE.out]
            conv => rhs; unfold insOuter
            rw [if_pos hlt, ← HEJ.out, e1])
          clear hR
          go_wp2_with fail
          go_quiet (fail)
          have HRQ := Lib.hid (HRJ.out.drewN nq)
          generalize wr.drewN nq = wq at HRQ ⊢
          go_wp2
          go_roundw
          case rel => exact ⟨i + 1, dj, by go_num, by omega, by omega, HRQ.out, HO.out⟩
          case measure => simp [intOf]; omega
    · have hlti : ¬ (i : Int) < (b : Int) := by omega
      go_wp2
      go_end0
      refine ⟨rfl, ?_⟩
      rw [← HE.out]
      unfold insOuter
      rw [if_neg hlt]
      exact HR.out
end
end Go.Proofs.Ytciplhpnbpmfeaa.Srt

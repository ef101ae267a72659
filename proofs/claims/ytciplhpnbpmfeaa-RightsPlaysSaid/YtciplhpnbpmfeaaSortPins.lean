/- The insertion sort that gives up after some steps. -/
import Derived.Test.YtciplhpnbpmfeaaSortSift
import Derived.Deep.CutBlock
import Derived.Handy
namespace Go.Proofs.Ytciplhpnbpmfeaa.Srt
open Go.Proofs.Ytciplhpnbpmfeaa.Mem
open Go.RowKit Go.Sort
set_option linter.unusedVariables false
set_option linter.unusedSimpArgs false
section
variable {w0 w w' : World} {blk off N : Nat} {d0 d d' : Array Int}
/- What one step makes of a row, behind its scan. -/
def stepP (d : Array Int) (a b i : Nat) : Array Int :=
  if b - i ≥ 2 then shiftUp ltInt b (i + 1) (if i - a ≥ 2 then shiftDown ltInt (i - 1) (swp d i (i - 1)) else swp d i (i - 1)) else if i - a ≥ 2 then shiftDown ltInt (i - 1) (swp d i (i - 1)) else swp d i (i - 1)
theorem pins_eq (d : Array Int) {a b s i i2 : Nat} (h : i2 = scanSorted ltInt d b i) : partialIns ltInt a b (s + 1) i d = if i2 = b then (d, true) else if b - a < 50 then (d, false) else partialIns ltInt a b s i2 (stepP d a b i2) := by
  subst h
  conv => lhs; unfold partialIns
  rfl
set_option maxRecDepth 100000 in
set_option maxHeartbeats 2000000 in
theorem pins_any (h : RW w0 blk off N d0 d w) (cap : Nat) {a b : Nat} (hab : a < b) (hb : b ≤ N) : Calls Try.prog 31 #[.slice (some ⟨blk, off, none⟩) N cap, .int .i64 a, .int .i64 b] w fun e w' =>
    e = .returned (.bool (partialInsertionSort ltInt d a b).2) ∧ RW w0 blk off N d0 (partialInsertionSort ltInt d a b).1 w' := by
  have hN := h.base.few
  have H := Lib.hid h
  clear h
  go_enter Try.func31, Try.ntmps31
  go_wp2
  go_loopw [7, 8] (fun v u wr => ∃ (i c : Nat) (dk : Array Int), v = .int .i64 (i : Int) ∧ u = .int .i64 (c : Int) ∧ a + 1 ≤ i ∧ i ≤ b ∧ c ≤ 5 ∧ RW w0 blk off N d0 dk wr ∧ partialIns ltInt a b (5 - c) i dk = partialInsertionSort ltInt d a b) (fun v u _ => 5 - (intOf u).toNat)
  case atStart => exact ⟨a + 1, 0, d, by go_num, rfl, by omega, by omega, by omega, H.out, rfl⟩
  case round =>
    obtain ⟨i, c, dk, rfl, rfl, hi1, hi2, hc, hR, hE⟩ := hrel
    have HR := Lib.hid hR
    have HE := Lib.hid hE
    clear hR hE
    by_cases hc5 : c < 5
    · have hc5i : (c : Int) < 5 := by omega
      go_upto_block 2 with fail
      go_cut [7] from 13 to 132 (fun v wx => ∃ k : Nat, v = .int .i64 (k : Int) ∧ (i ≤ k ∧ k ≤ b) ∧ k = scanSorted ltInt dk b i ∧ RW w0 blk off N d0 dk wx)
      case first =>
        go_wp2_with fail
        go_loopw [7] (fun v wr => ∃ k : Nat, v = .int .i64 (k : Int) ∧ (i ≤ k ∧ k ≤ b) ∧ RW w0 blk off N d0 dk wr ∧ scanSorted ltInt dk b k = scanSorted ltInt dk b i) (fun v _ => b - (intOf v).toNat)
        case atStart => exact ⟨i, rfl, by omega, HR.out, rfl⟩
        case round =>
          obtain ⟨k, rfl, hk, hR, hE⟩ := hrel
          have HRk := Lib.hid hR
          have HEk := Lib.hid hE
          clear hR hE
          by_cases hkb : k < b
          · have hkbi : (k : Int) < (b : Int) := by omega
            have c1 := HRk.out.cell (j := k) (by omega)
            have c2 := HRk.out.cell (j := k - 1) (by omega)
            obtain ⟨x1, hx⟩ : ∃ x, x = (dk)[k]! := ⟨_, rfl⟩
            obtain ⟨y1, hy⟩ : ∃ x, x = (dk)[k - 1]! := ⟨_, rfl⟩
            have HX1 := Lib.hid (And.intro hx hy)
            rw [← hx] at c1
            rw [← hy] at c2
            clear hx hy
            go_wp2_with fail
            go_quiet ((go_at_call 32; exact Calls.quiet_of_same (less_q _ _ _)))
            have HQ1 := Lib.hid (HRk.out.drewN nq)
            clear c1 c2
            generalize wr.drewN nq = wq at HQ1 ⊢
            rcases Bool.eq_false_or_eq_true (ltInt x1 y1) with hxy | hxy
            · have HXY := Lib.hid hxy
              rw [hxy]
              clear hxy
              go_wp2
              go_meet
              case rel => exact ⟨k, rfl, by omega, by
                rw [← HEk.out]
                unfold scanSorted
                rw [if_neg (by
                  have h1 := HXY.out
                  rw [HX1.out.1, HX1.out.2] at h1
                  simp [h1])], HQ1.out⟩
            · have HXY := Lib.hid hxy
              rw [hxy]
              clear hxy
              go_wp2
              go_roundw
              case rel => exact ⟨k + 1, by go_num, by omega, HQ1.out, by
                rw [← HEk.out]
                conv => rhs; unfold scanSorted
                rw [if_pos (by
                  have h1 := HXY.out
                  rw [HX1.out.1, HX1.out.2] at h1
                  simp [h1, hkb])]⟩
              case measure => (simp [intOf] <;> omega)
          · have hkbi : ¬ (k : Int) < (b : Int) := by omega
            go_wp2_with fail
            go_quiet (fail)
            have HQ1 := Lib.hid (HRk.out.drewN nq)
            generalize wr.drewN nq = wq at HQ1 ⊢
            go_wp2
            go_meet
            case rel => exact ⟨k, rfl, by omega, by
              rw [← HEk.out]
              unfold scanSorted
              rw [if_neg (by simp; omega)], HQ1.out⟩
      case rest =>
        obtain ⟨i2, rfl, hi3, hv, hR⟩ := hcut
        have HEQ := Lib.hid (show partialInsertionSort ltInt d a b = if i2 = b then (dk, true) else if b - a < 50 then (dk, false) else partialIns ltInt a b (5 - (c + 1)) i2 (stepP dk a b i2) from by
          rw [← HE.out, ← pins_eq dk hv]
          rw [show 5 - c = 5 - (c + 1) + 1 by omega])
        have HRi := Lib.hid hR
        clear hv hR HR HE
        by_cases hib : i2 = b
        · have hibi : (i2 : Int) = (b : Int) := by omega
          go_wp2
          go_ret
          rw [HEQ.out, if_pos hib]
          exact ⟨rfl, HRi.out⟩
        · have hibi : ¬ (i2 : Int) = (b : Int) := by omega
          by_cases h50 : b - a < 50
          · have h50i : (b : Int) - (a : Int) < 50 := by omega
            go_wp2
            go_ret
            rw [HEQ.out, if_neg hib, if_pos h50]
            exact ⟨rfl, HRi.out⟩
          · have h50i : ¬ (b : Int) - (a : Int) < 50 := by omega
            have HEQ := Lib.hid (HEQ.out.trans (by rw [if_neg hib, if_neg h50]))
            have c1 := HRi.out.cell (j := i2) (by omega)
            have c2 := HRi.out.cell (j := i2 - 1) (by omega)
            have f1 := HRi.out.frozen (j := i2) (by omega)
            have f2 := HRi.out.frozen (j := i2 - 1) (by omega)
            obtain ⟨x2, hx⟩ : ∃ x, x = (dk)[i2]! := ⟨_, rfl⟩
            obtain ⟨y2, hy⟩ : ∃ x, x = (dk)[i2 - 1]! := ⟨_, rfl⟩
            have HX2 := Lib.hid (And.intro hx hy)
            rw [← hx] at c1
            rw [← hy] at c2
            have g2 : (wc.setCell ⟨blk, off + (i2), none⟩ (.int .u32 y2)).drew.cell? ⟨blk, off + (i2 - 1), none⟩ = some (.int .u32 y2) := twice HRi.out (by omega) (by omega) c2 (by omega)
            clear hx hy
            go_wp2_with fail
            go_region
            have HS2 := Lib.hid (show RW w0 blk off N d0 (swp (dk) (i2) (i2 - 1)) ((wc.setCell ⟨blk, off + (i2), none⟩ (.int .u32 y2)).setCell ⟨blk, off + (i2 - 1), none⟩ (.int .u32 x2)) from by
              rw [HX2.out.1, HX2.out.2]
              exact HRi.out.swp (by omega) (by omega))
            clear f1 f2 c1 c2 g2
            generalize (wc.setCell ⟨blk, off + (i2), none⟩ (.int .u32 y2)).setCell ⟨blk, off + (i2 - 1), none⟩ (.int .u32 x2) = ws at HS2 ⊢
            have HS2 := Lib.hid HS2.out.drew
            obtain ⟨d2, hd2⟩ : ∃ d2, d2 = swp dk i2 (i2 - 1) := ⟨_, rfl⟩
            have HD2 := Lib.hid hd2
            rw [← hd2] at HS2
            clear hd2 HRi
            go_upto_if 61 with fail
            go_cut [] from 13 to 132 (fun wx => RW w0 blk off N d0 (if i2 - a ≥ 2 then shiftDown ltInt (i2 - 1) d2 else d2) wx)
            case first =>
              by_cases hia : 2 ≤ i2 - a
              · have hiai : (2 : Int) ≤ (i2 : Int) - (a : Int) := by omega
                go_wp2_with fail
                go_loopw [9] (fun v wr => ∃ (k : Nat) (dl : Array Int), v = .int .i64 (k : Int) ∧ k < i2 ∧ RW w0 blk off N d0 dl wr ∧ shiftDown ltInt k dl = shiftDown ltInt (i2 - 1) d2) (fun v _ => (intOf v).toNat)
                case atStart => exact ⟨i2 - 1, d2, by go_num, by omega, HS2.out, rfl⟩
                case round =>
                  obtain ⟨k, dl, rfl, hk, hR, hE⟩ := hrel
                  have HRk := Lib.hid hR
                  have HEk := Lib.hid hE
                  clear hR hE
                  by_cases hk1 : 1 ≤ k
                  · have hk1i : (1 : Int) ≤ (k : Int) := by omega
                    have c1 := HRk.out.cell (j := k) (by omega)
                    have c2 := HRk.out.cell (j := k - 1) (by omega)
                    obtain ⟨x3, hx⟩ : ∃ x, x = (dl)[k]! := ⟨_, rfl⟩
                    obtain ⟨y3, hy⟩ : ∃ x, x = (dl)[k - 1]! := ⟨_, rfl⟩
                    have HX3 := Lib.hid (And.intro hx hy)
                    rw [← hx] at c1
                    rw [← hy] at c2
                    clear hx hy
                    go_wp2_with fail
                    go_quiet ((go_at_call 32; exact Calls.quiet_of_same (less_q _ _ _)))
                    have HQ3 := Lib.hid (HRk.out.drewN nq)
                    clear c1 c2
                    generalize wr.drewN nq = wq at HQ3 ⊢
                    rcases Bool.eq_false_or_eq_true (ltInt x3 y3) with hxy | hxy
                    · have HXY := Lib.hid hxy
                      rw [hxy]
                      clear hxy
                      have c1 := HQ3.out.cell (j := k) (by omega)
                      have c2 := HQ3.out.cell (j := k - 1) (by omega)
                      have f1 := HQ3.out.frozen (j := k) (by omega)
                      have f2 := HQ3.out.frozen (j := k - 1) (by omega)
                      obtain ⟨x4, hx⟩ : ∃ x, x = (dl)[k]! := ⟨_, rfl⟩
                      obtain ⟨y4, hy⟩ : ∃ x, x = (dl)[k - 1]! := ⟨_, rfl⟩
                      have HX4 := Lib.hid (And.intro hx hy)
                      rw [← hx] at c1
                      rw [← hy] at c2
                      have g2 : (wq.setCell ⟨blk, off + (k), none⟩ (.int .u32 y4)).drew.cell? ⟨blk, off + (k - 1), none⟩ = some (.int .u32 y4) := twice HQ3.out (by omega) (by omega) c2 (by omega)
                      clear hx hy
                      go_wp2_with fail
                      go_region
                      have HS4 := Lib.hid (show RW w0 blk off N d0 (swp (dl) (k) (k - 1)) ((wq.setCell ⟨blk, off + (k), none⟩ (.int .u32 y4)).setCell ⟨blk, off + (k - 1), none⟩ (.int .u32 x4)) from by
                        rw [HX4.out.1, HX4.out.2]
                        exact HQ3.out.swp (by omega) (by omega))
                      clear f1 f2 c1 c2 g2
                      generalize (wq.setCell ⟨blk, off + (k), none⟩ (.int .u32 y4)).setCell ⟨blk, off + (k - 1), none⟩ (.int .u32 x4) = wt at HS4 ⊢
                      go_wp2
                      go_roundw
                      case rel => exact ⟨k - 1, _, by go_num, by omega, HS4.out.drew, by
                        rw [← HEk.out]
                        obtain ⟨m, rfl⟩ : ∃ m, k = m + 1 := ⟨k - 1, by omega⟩
                        conv => rhs; unfold shiftDown
                        rw [if_neg (by
                          have h1 := HXY.out
                          rw [HX3.out.1, HX3.out.2] at h1
                          simp only [Nat.add_sub_cancel] at h1
                          simp [h1])]
                        rfl⟩
                      case measure => (simp [intOf] <;> omega)
                    · have HXY := Lib.hid hxy
                      rw [hxy]
                      clear hxy
                      go_wp2
                      go_meet
                      case rel =>
                        rw [if_pos hia, ← HEk.out]
                        obtain ⟨m, rfl⟩ : ∃ m, k = m + 1 := ⟨k - 1, by omega⟩
                        unfold shiftDown
                        rw [if_pos (by
                          have h1 := HXY.out
                          rw [HX3.out.1, HX3.out.2] at h1
                          simp only [Nat.add_sub_cancel] at h1
                          simp [h1])]
                        exact HQ3.out
                  · have hk1i : ¬ (1 : Int) ≤ (k : Int) := by omega
                    go_wp2
                    go_meet
                    case rel =>
                      rw [if_pos hia, ← HEk.out]
                      rw [show k = 0 by omega]
                      exact HRk.out
              · have hiai : ¬ (2 : Int) ≤ (i2 : Int) - (a : Int) := by omega
                go_wp2
                go_meet
                case rel =>
                  rw [if_neg hia]
                  exact HS2.out
            case rest =>
              obtain ⟨d3, hd3⟩ : ∃ d3, d3 = if i2 - a ≥ 2 then shiftDown ltInt (i2 - 1) d2 else d2 := ⟨_, rfl⟩
              rw [← hd3] at hcut
              have HD3 := Lib.hid hd3
              have HS3 := Lib.hid hcut
              clear hd3 hcut HS2
              have HST := Lib.hid (show stepP dk a b i2 = if b - i2 ≥ 2 then shiftUp ltInt b (i2 + 1) d3 else d3 from by
                unfold stepP
                rw [← HD2.out, ← HD3.out])
              · by_cases hia : 2 ≤ b - i2
                · have hiai : (2 : Int) ≤ (b : Int) - (i2 : Int) := by omega
                  go_wp2_with fail
                  go_loopw [10] (fun v wr => ∃ (k : Nat) (dl : Array Int), v = .int .i64 (k : Int) ∧ 1 ≤ k ∧ k ≤ b ∧ RW w0 blk off N d0 dl wr ∧ shiftUp ltInt b k dl = shiftUp ltInt b (i2 + 1) d3) (fun v _ => b - (intOf v).toNat)
                  case atStart => exact ⟨i2 + 1, d3, by go_num, by omega, by omega, HS3.out, rfl⟩
                  case round =>
                    obtain ⟨k, dl, rfl, hk, hk2, hR, hE⟩ := hrel
                    have HRk := Lib.hid hR
                    have HEk := Lib.hid hE
                    clear hR hE
                    by_cases hk1 : k < b
                    · have hk1i : (k : Int) < (b : Int) := by omega
                      have c1 := HRk.out.cell (j := k) (by omega)
                      have c2 := HRk.out.cell (j := k - 1) (by omega)
                      obtain ⟨x3, hx⟩ : ∃ x, x = (dl)[k]! := ⟨_, rfl⟩
                      obtain ⟨y3, hy⟩ : ∃ x, x = (dl)[k - 1]! := ⟨_, rfl⟩
                      have HX3 := Lib.hid (And.intro hx hy)
                      rw [← hx] at c1
                      rw [← hy] at c2
                      clear hx hy
                      go_wp2_with fail
                      go_quiet ((go_at_call 32; exact Calls.quiet_of_same (less_q _ _ _)))
                      have HQ3 := Lib.hid (HRk.out.drewN nq)
                      clear c1 c2
                      generalize wr.drewN nq = wq at HQ3 ⊢
                      rcases Bool.eq_false_or_eq_true (ltInt x3 y3) with hxy | hxy
                      · have HXY := Lib.hid hxy
                        rw [hxy]
                        clear hxy
                        have c1 := HQ3.out.cell (j := k) (by omega)
                        have c2 := HQ3.out.cell (j := k - 1) (by omega)
                        have f1 := HQ3.out.frozen (j := k) (by omega)
                        have f2 := HQ3.out.frozen (j := k - 1) (by omega)
                        obtain ⟨x4, hx⟩ : ∃ x, x = (dl)[k]! := ⟨_, rfl⟩
                        obtain ⟨y4, hy⟩ : ∃ x, x = (dl)[k - 1]! := ⟨_, rfl⟩
                        have HX4 := Lib.hid (And.intro hx hy)
                        rw [← hx] at c1
                        rw [← hy] at c2
                        have g2 : (wq.setCell ⟨blk, off + (k), none⟩ (.int .u32 y4)).drew.cell? ⟨blk, off + (k - 1), none⟩ = some (.int .u32 y4) := twice HQ3.out (by omega) (by omega) c2 (by omega)
                        clear hx hy
                        go_wp2_with fail
                        go_region
                        have HS4 := Lib.hid (show RW w0 blk off N d0 (swp (dl) (k) (k - 1)) ((wq.setCell ⟨blk, off + (k), none⟩ (.int .u32 y4)).setCell ⟨blk, off + (k - 1), none⟩ (.int .u32 x4)) from by
                          rw [HX4.out.1, HX4.out.2]
                          exact HQ3.out.swp (by omega) (by omega))
                        clear f1 f2 c1 c2 g2
                        generalize (wq.setCell ⟨blk, off + (k), none⟩ (.int .u32 y4)).setCell ⟨blk, off + (k - 1), none⟩ (.int .u32 x4) = wt at HS4 ⊢
                        go_wp2
                        go_roundw
                        case rel => exact ⟨k + 1, _, by go_num, by omega, by omega, HS4.out.drew, by
                          rw [← HEk.out]
                          conv => rhs; unfold shiftUp
                          rw [if_pos hk1, if_neg (by
                            have h1 := HXY.out
                            rw [HX3.out.1, HX3.out.2] at h1
                            simp [h1])]⟩
                        case measure => (simp [intOf] <;> omega)
                      · have HXY := Lib.hid hxy
                        rw [hxy]
                        clear hxy
                        go_wp2
                        go_roundw
                        case rel => exact ⟨i2, c + 1, _, rfl, by go_num, by omega, by omega, by omega, HQ3.out, by
                          rw [HEQ.out, HST.out, if_pos hia, ← HEk.out]
                          conv => rhs; unfold shiftUp
                          rw [if_pos hk1, if_pos (by
                            have h1 := HXY.out
                            rw [HX3.out.1, HX3.out.2] at h1
                            simp [h1])]⟩
                        case measure => (simp [intOf] <;> omega)
                    · have hk1i : ¬ (k : Int) < (b : Int) := by omega
                      go_wp2
                      go_roundw
                      case rel => exact ⟨i2, c + 1, _, rfl, by go_num, by omega, by omega, by omega, HRk.out, by
                        rw [HEQ.out, HST.out, if_pos hia, ← HEk.out]
                        conv => rhs; unfold shiftUp
                        rw [if_neg hk1]⟩
                      case measure => (simp [intOf] <;> omega)
                · have hiai : ¬ (2 : Int) ≤ (b : Int) - (i2 : Int) := by omega
                  go_wp2
                  go_roundw
                  case rel => exact ⟨i2, c + 1, _, rfl, by go_num, by omega, by omega, by omega, HS3.out, by
                    rw [HEQ.out, HST.out, if_neg hia]⟩
                  case measure => (simp [intOf] <;> omega)
    · have hc5i : ¬ (c : Int) < 5 := by omega
      have HE2 := Lib.hid (show partialInsertionSort ltInt d a b = (dk, false) from by
        rw [← HE.out, show 5 - c = 0 by omega]
        rfl)
      go_wp2
      go_ret
      rw [HE2.out]
      exact ⟨rfl, HR.out⟩
end
end Go.Proofs.Ytciplhpnbpmfeaa.Srt

/- The sort's own loop and recursion: what it leaves is a permutation, and it rises. -/
import Derived.Test.YtgjofinbdigmcaaSrtB
import Derived.Test.YtgjofinbdigmcaaSortBreak
import Derived.Test.YtgjofinbdigmcaaSrtLib
import Derived.Sort.LotD6
namespace Go.Proofs.Ytgjofinbdigmcaa.Srt
open Go.Proofs.Ytgjofinbdigmcaa.Mem
open Go.RowKit Go.Sort
set_option linter.unusedVariables false
set_option linter.unusedSimpArgs false
/- A part that is done makes the whole done. -/
def Fin (a b : Nat) (d : Array Int) (a' b' : Nat) (dk : Array Int) : Prop := ∀ R, PermIn a' b' dk R → SortedIn ltInt a' b' R → PermIn a b d R ∧ SortedIn ltInt a b R
theorem Fin.perm {a b a' b' : Nat} {d dk dl : Array Int} (h : Fin a b d a' b' dk) (hp : PermIn a' b' dk dl) : Fin a b d a' b' dl := fun R h1 h2 => h R (permIn_trans _ _ _ _ _ hp h1) h2
section
variable {w0 w w' : World} {blk off N : Nat} {d0 : Array Int}
set_option maxRecDepth 100000 in
set_option maxHeartbeats 4000000 in
theorem pdq_any : ∀ (n : Nat) (d : Array Int) (w : World) (h : RW w0 blk off N d0 d w) (cap a b limit : Nat) (hn : b - a < n) (hab : a ≤ b) (hb : b ≤ N) (hlim : limit < 4611686018427387904) (hB : Below ltInt a b d),
    Calls Try.prog 68 #[.slice (some ⟨blk, off, none⟩) N cap, .int .i64 a, .int .i64 b, .int .i64 limit] w fun e w' => e = .returned (.tuple #[]) ∧ ∃ d', PermIn a b d d' ∧ SortedIn ltInt a b d' ∧ RW w0 blk off N d0 d' w' := by
  intro n
  induction n with
  | zero => intro d w h cap a b limit hn; exact absurd hn (Nat.not_lt_zero _)
  | succ n ih =>
    intro d w h cap a b limit hn hab hb hlim hB
    have hN := h.base.few
    have H := Lib.hid h
    have HB := Lib.hid hB
    have IH := Lib.hid ih
    clear h hB ih
    go_enter Try.func68, Try.ntmps68
    go_wp2
    go_loopw [1, 2, 3, 8, 9] (fun s1 s2 s3 s8 s9 wr => ∃ (a' b' lim : Nat) (wb wp : Bool) (dk : Array Int), s1 = .int .i64 (a' : Int) ∧ s2 = .int .i64 (b' : Int) ∧ s3 = .int .i64 (lim : Int) ∧ s8 = .bool wb ∧ s9 = .bool wp ∧
      a' ≤ b' ∧ b' ≤ N ∧ b' - a' ≤ b - a ∧ lim < 4611686018427387904 ∧ RW w0 blk off N d0 dk wr ∧ Below ltInt a' b' dk ∧ Fin a b d a' b' dk) (fun s1 s2 _ _ _ _ => (intOf s2).toNat - (intOf s1).toNat)
    case atStart => exact ⟨a, b, limit, true, true, d, rfl, rfl, rfl, rfl, rfl, hab, hb, Nat.le_refl _, hlim, H.out, HB.out, fun R h1 h2 => ⟨h1, h2⟩⟩
    case round =>
      obtain ⟨a', b', lim, wb, wp, dk, rfl, rfl, rfl, rfl, rfl, hab', hb', hle, hlim', hR, hBel, hF⟩ := hrel
      have HR := Lib.hid hR
      have HBel := Lib.hid hBel
      have HF := Lib.hid hF
      clear hR hBel hF
      by_cases h12 : b' - a' ≤ 12
      · have h12i : (b' : Int) - (a' : Int) ≤ 12 := by omega
        have HC := Lib.hid (ins_any HR.out cap hab' hb')
        go_wp2_with (first | (go_at_call 73; refine HC.out.mono ?_; rintro e w1 ⟨rfl, hR1⟩; have HR1 := Lib.hid hR1; clear hR1))
        (try simp only [Exit.inBlock, Exit.then]); refine bodyPost_ret (results_none rfl _ _ _) rfl ?_
        have h1 := insertionSort_holds swo_ltInt dk a' b' hab' (by rw [HR.out.size]; exact hb')
        exact ⟨rfl, _, (HF.out _ h1.1 h1.2).1, (HF.out _ h1.1 h1.2).2, HR1.out⟩
      · have h12i : ¬ (b' : Int) - (a' : Int) ≤ 12 := by omega
        by_cases hl0 : lim = 0
        · have hl0i : (lim : Int) = 0 := by omega
          have HC := Lib.hid (heap_any HR.out cap hab' hb')
          go_wp2_with (first | (go_at_call 74; refine HC.out.mono ?_; rintro e w1 ⟨rfl, hR1⟩; have HR1 := Lib.hid hR1; clear hR1))
          (try simp only [Exit.inBlock, Exit.then]); refine bodyPost_ret (results_none rfl _ _ _) rfl ?_
          have h1 := heapSort_holds swo_ltInt dk a' b' hab' (by rw [HR.out.size]; exact hb')
          exact ⟨rfl, _, (HF.out _ h1.1 h1.2).1, (HF.out _ h1.1 h1.2).2, HR1.out⟩
        · have hl0i : ¬ (lim : Int) = 0 := by omega
          have hs0 : dk.size = N := HR.out.size
          go_upto_if 35 with fail
          go_cut [3] from 19 to 133 (fun s3 wx => ∃ (d1 : Array Int) (l1 : Nat), s3 = .int .i64 (l1 : Int) ∧ l1 < 4611686018427387904 ∧ PermIn a' b' dk d1 ∧ RW w0 blk off N d0 d1 wx)
          case first =>
            cases wb
            · have HC := Lib.hid (break_any HR.out cap (a := a') (b := b') (L := b' - a') (by omega) (by omega) hb')
              go_wp2_with (first | (go_at_call 75; refine HC.out.mono ?_; rintro e w1 ⟨rfl, hR1⟩; have HR1 := Lib.hid hR1; clear hR1))
              go_meet
              case rel => exact ⟨_, lim - 1, by go_num, by omega, breakPatterns_holds dk a' b' hab' (by omega), HR1.out⟩
            · go_wp2
              go_meet
              case rel => exact ⟨dk, lim, rfl, hlim', permIn_refl _ _ _, HR.out⟩
          case rest =>
            obtain ⟨d1, l1, rfl, hl1, hP1, hR1⟩ := hcut
            have HR1 := Lib.hid hR1
            have HF1 := Lib.hid (HF.out.perm hP1)
            have HBel1 := Lib.hid (HBel.out.perm (by omega) hP1)
            have hs1 : d1.size = N := hR1.size
            clear hR1 hP1 HR HF HBel hs0
            have HC := Lib.hid (pivot_any HR1.out cap (a := a') (b := b') (l := b' - a') (by omega) (by omega) hb')
            have hc := choosePivot_holds ltInt d1 a' b' (by omega)
            obtain ⟨p, hp⟩ : ∃ p, p = (choosePivot ltInt d1 a' b').1 := ⟨_, rfl⟩
            obtain ⟨hi, hhi⟩ : ∃ p, p = (choosePivot ltInt d1 a' b').2 := ⟨_, rfl⟩
            rw [← hp, ← hhi] at HC
            rw [← hp] at hc
            clear hp hhi
            go_upto_if 50 with (first | (go_at_call 76; refine HC.out.mono ?_; rintro e w2 ⟨rfl, hR2⟩; have HR2 := Lib.hid hR2; clear hR2))
            go_cut [11, 12] from 19 to 133 (fun s11 s12 wx => ∃ (d2 : Array Int) (p2 : Nat) (h2 : Hint), s11 = .int .i64 (p2 : Int) ∧ s12 = .int .i64 (hint3 h2) ∧ (a' ≤ p2 ∧ p2 < b') ∧ PermIn a' b' d1 d2 ∧ RW w0 blk off N d0 d2 wx)
            case first =>
              cases hi
              · go_wp2
                go_meet
                case rel => exact ⟨d1, p, .unknown, rfl, rfl, hc, permIn_refl _ _ _, HR2.out⟩
              · go_wp2
                go_meet
                case rel => exact ⟨d1, p, .increasing, rfl, rfl, hc, permIn_refl _ _ _, HR2.out⟩
              · have HC2 := Lib.hid (rev_any HR2.out cap (a := a') (b := b') (by omega) hb')
                go_wp2_with (first | (go_at_call 77; refine HC2.out.mono ?_; rintro e w3 ⟨rfl, hR3⟩; have HR3 := Lib.hid hR3; clear hR3))
                go_meet
                case rel => exact ⟨_, (b' - 1) - (p - a'), .increasing, by go_num, rfl, by omega, reverseRange_holds d1 a' b' hab' (by omega), HR3.out⟩
            case rest =>
              obtain ⟨d2, p2, h2, rfl, rfl, hp2, hP2, hR2⟩ := hcut
              have HR2' := Lib.hid hR2
              have HF2 := Lib.hid (HF1.out.perm hP2)
              have HBel2 := Lib.hid (HBel1.out.perm (by omega) hP2)
              have hs2 : d2.size = N := hR2.size
              clear hR2 hP2 HR1 HF1 HBel1 hs1 HC hc
              go_upto_region 15 with fail
              go_cut [68] from 19 to 133 (fun v wx => ∃ bb : Bool, v = .bool bb ∧ RW w0 blk off N d0 d2 wx)
              case first =>
                cases wb
                · go_wp2
                  go_meet
                  case rel => exact ⟨false, rfl, HR2'.out⟩
                · cases wp
                  · go_wp2
                    go_meet
                    case rel => exact ⟨false, rfl, HR2'.out⟩
                  · cases h2
                    · have e1 : hint3 .unknown = 0 := rfl
                      go_wp2
                      go_meet
                      case rel => exact ⟨false, rfl, HR2'.out⟩
                    · have e1 : hint3 .increasing = 1 := rfl
                      go_wp2
                      go_meet
                      case rel => exact ⟨true, rfl, HR2'.out⟩
                    · have e1 : hint3 .decreasing = 2 := rfl
                      go_wp2
                      go_meet
                      case rel => exact ⟨false, rfl, HR2'.out⟩
              case rest =>
                obtain ⟨bb, rfl, hR2⟩ := hcut
                have HRz := Lib.hid hR2
                clear hR2 HR2'
                go_upto_if 68 with fail
                go_cut [] from 19 to 133 (fun wx => ∃ d3, PermIn a' b' d2 d3 ∧ RW w0 blk off N d0 d3 wx)
                case first =>
                  cases bb
                  · go_wp2
                    go_meet
                    case rel => exact ⟨d2, permIn_refl _ _ _, HRz.out⟩
                  · have HC := Lib.hid (pins_any HRz.out cap (a := a') (b := b') (by omega) hb')
                    have h1 := partialInsertionSort_holds swo_ltInt d2 a' b' (by omega) (by omega) HBel2.out
                    obtain ⟨rr, hrr⟩ : ∃ rr, rr = partialInsertionSort ltInt d2 a' b' := ⟨_, rfl⟩
                    rw [← hrr] at HC h1
                    have H1 := Lib.hid h1
                    clear hrr h1
                    obtain ⟨r1, r2⟩ := rr
                    cases r2
                    · go_wp2_with (first | (go_at_call 78; refine HC.out.mono ?_; rintro e w3 ⟨rfl, hR3⟩; have HR3 := Lib.hid hR3; clear hR3))
                      go_meet
                      case rel => exact ⟨r1, H1.out.1, HR3.out⟩
                    · go_wp2_with (first | (go_at_call 78; refine HC.out.mono ?_; rintro e w3 ⟨rfl, hR3⟩; have HR3 := Lib.hid hR3; clear hR3))
                      (try simp only [Exit.inBlock, Exit.then]); refine bodyPost_ret (results_none rfl _ _ _) rfl ?_
                      have h1 := HF2.out _ H1.out.1 (H1.out.2 (by first | trivial | rfl))
                      exact ⟨rfl, r1, h1.1, h1.2, HR3.out⟩
                case rest =>
                  obtain ⟨d3, hP3, hR3⟩ := hcut
                  have HR3 := Lib.hid hR3
                  have HF3 := Lib.hid (HF2.out.perm hP3)
                  have HBel3 := Lib.hid (HBel2.out.perm (by omega) hP3)
                  have hs3 : d3.size = N := hR3.size
                  clear hR3 hP3 HF2 HBel2 hs2 HRz
                  go_upto_region 17 with fail
                  go_cut [87] from 19 to 133 (fun v wx => v = .bool (decide (0 < a') && !ltInt d3[a' - 1]! d3[p2]!) ∧ RW w0 blk off N d0 d3 wx)
                  case first =>
                    by_cases ha0 : 0 < a'
                    · have ha0i : (0 : Int) < (a' : Int) := by omega
                      have c1 := HR3.out.cell (j := a' - 1) (by omega)
                      have c2 := HR3.out.cell (j := p2) (by omega)
                      obtain ⟨x, hx⟩ : ∃ x, x = d3[a' - 1]! := ⟨_, rfl⟩
                      obtain ⟨y, hy⟩ : ∃ x, x = d3[p2]! := ⟨_, rfl⟩
                      have HX := Lib.hid (And.intro hx hy)
                      rw [← hx] at c1
                      rw [← hy] at c2
                      clear hx hy
                      go_quiet ((go_at_call 79; exact Calls.quiet_of_same (less_q _ _ _)))
                      have HQ := Lib.hid (HR3.out.drewN nq)
                      clear c1 c2
                      generalize wc.drewN nq = wq at HQ ⊢
                      go_wp2
                      go_meet
                      case rel => exact ⟨by rw [← HX.out.1, ← HX.out.2]; simp [ha0], HQ.out⟩
                    · have ha0i : ¬ (0 : Int) < (a' : Int) := by omega
                      go_quiet (fail)
                      have HQ := Lib.hid (HR3.out.drewN nq)
                      generalize wc.drewN nq = wq at HQ ⊢
                      go_wp2
                      go_meet
                      case rel => exact ⟨by simp [ha0], HQ.out⟩
                  case rest =>
                    obtain ⟨rfl, hR4⟩ := hcut
                    have HR4 := Lib.hid hR4
                    clear hR4 HR3
                    obtain ⟨bb, hbb⟩ : ∃ bb, bb = (decide (0 < a') && !ltInt d3[a' - 1]! d3[p2]!) := ⟨_, rfl⟩
                    rw [← hbb]
                    have HBB := Lib.hid hbb
                    clear hbb
                    cases bb
                    · have HC := Lib.hid (part_any HR4.out cap hp2.1 hp2.2 hb')
                      obtain ⟨q, hq⟩ : ∃ q, q = partition ltInt d3 a' b' p2 := ⟨_, rfl⟩
                      rw [← hq] at HC
                      obtain ⟨mid, ap, d4⟩ := q
                      obtain ⟨r1, r2, r3, r4, r5, r6, r7⟩ := round_part swo_ltInt (partition_holds ltInt) hp2.1 hp2.2 (by omega) HBel3.out hq.symm
                      have R4 := Lib.hid r4
                      have R5 := Lib.hid r5
                      have R6 := Lib.hid r6
                      have R7 := Lib.hid r7
                      clear hq r4 r5 r6 r7
                      go_upto_if 113 with (first | (go_at_call 81; refine HC.out.mono ?_; rintro e w5 ⟨rfl, hR5⟩; have HR5 := Lib.hid hR5; clear hR5))
                      by_cases hsm : mid - a' < b' - mid
                      · have hsmi : (mid : Int) - (a' : Int) < (b' : Int) - (mid : Int) := by omega
                        have HI := Lib.hid (IH.out _ _ HR5.out cap a' mid l1 (by omega) r1 (by omega) hl1 R4.out)
                        go_wp2_with (first | (go_at_call 68; refine HI.out.mono ?_; rintro e w6 ⟨rfl, hR6⟩; have HR6 := Lib.hid hR6; clear hR6))
                        go_roundw
                        case rel =>
                          obtain ⟨L, hL1, hL2, hL3⟩ := HR6.out
                          have h6 := R6.out L hL1 hL2
                          exact ⟨mid + 1, b', l1, _, ap, L, by go_num, rfl, rfl, rfl, rfl, by omega, hb', by omega, hl1, hL3, h6.1, fun R q1 q2 => (fun z => HF3.out R z.1 z.2) (h6.2 R q1 q2)⟩
                        case measure => (simp [intOf] <;> omega)
                      · have hsmi : ¬ (mid : Int) - (a' : Int) < (b' : Int) - (mid : Int) := by omega
                        have HI := Lib.hid (IH.out _ _ HR5.out cap (mid + 1) b' l1 (by omega) (by omega) hb' hl1 R5.out)
                        rw [show ((mid + 1 : Nat) : Int) = (mid : Int) + 1 from by omega] at HI
                        go_wp2_with (first | (go_at_call 68; refine HI.out.mono ?_; rintro e w6 ⟨rfl, hR6⟩; have HR6 := Lib.hid hR6; clear hR6))
                        go_roundw
                        case rel =>
                          obtain ⟨L, hL1, hL2, hL3⟩ := HR6.out
                          have h7 := R7.out L hL1 hL2
                          exact ⟨a', mid, l1, _, ap, L, rfl, rfl, rfl, rfl, rfl, by omega, by omega, by omega, hl1, hL3, h7.1, fun R q1 q2 => (fun z => HF3.out R z.1 z.2) (h7.2 R q1 q2)⟩
                        case measure => (simp [intOf] <;> omega)
                    · have hbb := HBB.out
                      have h87 : 0 < a' ∧ ltInt d3[a' - 1]! d3[p2]! = false := by simpa using hbb.symm
                      have HC := Lib.hid (partEq_any HR4.out cap hp2.1 hp2.2 hb')
                      obtain ⟨q, hq⟩ : ∃ q, q = partitionEqual ltInt d3 a' b' p2 := ⟨_, rfl⟩
                      rw [← hq] at HC
                      obtain ⟨mid, d4⟩ := q
                      obtain ⟨r1, r2, r3, r4, r5⟩ := round_eq swo_ltInt (partitionEqual_holds ltInt) h87.1 hp2.1 hp2.2 (by omega) HBel3.out h87.2 hq.symm
                      have R4 := Lib.hid r4
                      have R5 := Lib.hid r5
                      clear hq r4 r5 hbb h87
                      go_wp2_with (first | (go_at_call 80; refine HC.out.mono ?_; rintro e w5 ⟨rfl, hR5⟩; have HR5 := Lib.hid hR5; clear hR5))
                      go_roundw
                      case rel => exact ⟨mid, b', l1, wb, wp, d4, rfl, rfl, rfl, rfl, rfl, r2, hb', by omega, hl1, HR5.out, R4.out, fun R q1 q2 => (fun z => HF3.out R z.1 z.2) (R5.out R q1 q2)⟩
                      case measure => (simp [intOf] <;> omega)
end
end Go.Proofs.Ytgjofinbdigmcaa.Srt

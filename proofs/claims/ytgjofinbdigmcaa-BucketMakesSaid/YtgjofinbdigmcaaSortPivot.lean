/- The pivot that is chosen: two in their order, the median of three, of neighbours. -/
import Derived.Test.YtgjofinbdigmcaaSrtA
import Derived.Test.YtgjofinbdigmcaaBlk
import Derived.Handy
namespace Go.Proofs.Ytgjofinbdigmcaa.Srt
open Go.Proofs.Ytgjofinbdigmcaa.Mem
open Go.RowKit Go.Sort
set_option linter.unusedVariables false
set_option linter.unusedSimpArgs false
/- The row, and beside it the count of exchanges, in a block of its own. -/
structure SW (w0 : World) (blk off N : Nat) (d0 d : Array Int) (sp n : Nat) (w : World) : Prop where
  row : RW w0 blk off N d0 d w
  blk : Blk w sp 3 #[.int .i64 (n : Int)]
  low : w0.heap.size ≤ sp
section
variable {w0 w w' : World} {blk off N : Nat} {d0 d d' : Array Int} {sp n : Nat}
theorem SW.drewN (h : SW w0 blk off N d0 d sp n w) (k : Nat) : SW w0 blk off N d0 d sp n (w.drewN k) := ⟨h.row.drewN k, h.blk, h.low⟩
theorem SW.set_ (h : SW w0 blk off N d0 d sp n w) (m : Nat) : SW w0 blk off N d0 d sp m (w.setCell ⟨sp, 0, none⟩ (.int .i64 (m : Int))) := ⟨h.row.newer h.low _ _, h.blk.set_ 0 _, h.low⟩
theorem order2_in (d : Array Int) {a b s M : Nat} (ha : a < M) (hb : b < M) : (order2 ltInt d a b s).1 < M ∧ (order2 ltInt d a b s).2.1 < M ∧ (order2 ltInt d a b s).2.2 ≤ s + 1 := by
  unfold order2
  split
  · exact ⟨hb, ha, Nat.le_refl _⟩
  · exact ⟨ha, hb, Nat.le_succ _⟩
theorem median_eq (d : Array Int) (a b c s : Nat) : median ltInt d a b c s =
    ((order2 ltInt d (order2 ltInt d a b s).1 (order2 ltInt d (order2 ltInt d a b s).2.1 c (order2 ltInt d a b s).2.2).1 (order2 ltInt d (order2 ltInt d a b s).2.1 c (order2 ltInt d a b s).2.2).2.2).2.1,
     (order2 ltInt d (order2 ltInt d a b s).1 (order2 ltInt d (order2 ltInt d a b s).2.1 c (order2 ltInt d a b s).2.2).1 (order2 ltInt d (order2 ltInt d a b s).2.1 c (order2 ltInt d a b s).2.2).2.2).2.2) := rfl
theorem median_in (d : Array Int) {a b c s M : Nat} (ha : a < M) (hb : b < M) (hc : c < M) : (median ltInt d a b c s).1 < M ∧ (median ltInt d a b c s).2 ≤ s + 3 := by
  have h1 := order2_in d (s := s) ha hb
  have h2 := order2_in d (s := (order2 ltInt d a b s).2.2) h1.2.1 hc
  have h3 := order2_in d (s := (order2 ltInt d (order2 ltInt d a b s).2.1 c (order2 ltInt d a b s).2.2).2.2) h1.1 h2.1
  rw [median_eq]
  exact ⟨h3.2.1, Nat.le_trans h3.2.2 (by omega)⟩
set_option maxRecDepth 100000 in
set_option maxHeartbeats 1000000 in
theorem order2_any (h : SW w0 blk off N d0 d sp n w) (cap : Nat) {a b : Nat} (ha : a < N) (hb : b < N) (hn : n < 1000) : Calls Try.prog 90 #[.slice (some ⟨blk, off, none⟩) N cap, .int .i64 a, .int .i64 b, .pointer (some ⟨sp, 0, none⟩)] w fun e w' =>
    e = .returned (.tuple #[.int .i64 ((order2 ltInt d a b n).1 : Nat), .int .i64 ((order2 ltInt d a b n).2.1 : Nat)]) ∧ SW w0 blk off N d0 d sp (order2 ltInt d a b n).2.2 w' := by
  have hN := h.row.base.few
  have c1 := h.row.cell hb
  have c2 := h.row.cell ha
  unfold order2
  obtain ⟨x, hx⟩ : ∃ x, x = d[b]! := ⟨_, rfl⟩
  obtain ⟨y, hy⟩ : ∃ x, x = d[a]! := ⟨_, rfl⟩
  rw [← hx, ← hy]
  rw [← hx] at c1
  rw [← hy] at c2
  have H := Lib.hid h
  clear h hx hy
  rcases Bool.eq_false_or_eq_true (ltInt x y) with hxy | hxy
  · rw [if_pos hxy]
    go_enter Try.func90, Try.ntmps90
    go_wp2_with fail
    go_quiet ((go_at_call 79; exact Calls.quiet_of_same (less_q _ _ _)))
    have HQ := Lib.hid (H.out.drewN nq)
    have s0 : (w.drewN nq).cell? ⟨sp, 0, none⟩ = some (.int .i64 (n : Int)) := HQ.out.blk.cell 0
    have s1 := HQ.out.blk.frozen 0
    clear c1 c2
    generalize w.drewN nq = wq at HQ s0 s1 ⊢
    rw [hxy]
    clear hxy
    go_wp2
    go_returns
    exact ⟨rfl, HQ.out.set_ (n + 1)⟩
  · rw [if_neg (by rw [hxy]; simp)]
    go_enter Try.func90, Try.ntmps90
    go_wp2_with fail
    go_quiet ((go_at_call 79; exact Calls.quiet_of_same (less_q _ _ _)))
    have HQ := Lib.hid (H.out.drewN nq)
    clear c1 c2
    generalize w.drewN nq = wq at HQ ⊢
    rw [hxy]
    clear hxy
    go_wp2
    go_returns
    exact ⟨rfl, HQ.out⟩
set_option maxRecDepth 100000 in
set_option maxHeartbeats 1000000 in
theorem median_any (h : SW w0 blk off N d0 d sp n w) (cap : Nat) {a b c : Nat} (ha : a < N) (hb : b < N) (hc : c < N) (hn : n < 900) : Calls Try.prog 88 #[.slice (some ⟨blk, off, none⟩) N cap, .int .i64 a, .int .i64 b, .int .i64 c, .pointer (some ⟨sp, 0, none⟩)] w fun e w' =>
    e = .returned (.int .i64 ((median ltInt d a b c n).1 : Nat)) ∧ SW w0 blk off N d0 d sp (median ltInt d a b c n).2 w' := by
  rw [median_eq]
  have h1 := order2_in d (s := n) ha hb
  have HO := Lib.hid (order2_any h cap ha hb (by omega))
  obtain ⟨r1, hr1⟩ : ∃ r, r = order2 ltInt d a b n := ⟨_, rfl⟩
  rw [← hr1] at h1 HO ⊢
  clear hr1 h
  have H1 := Lib.hid h1
  have h2 := order2_in d (s := r1.2.2) h1.2.1 hc
  obtain ⟨r2, hr2⟩ : ∃ r, r = order2 ltInt d r1.2.1 c r1.2.2 := ⟨_, rfl⟩
  rw [← hr2] at h2 ⊢
  have HR2 := Lib.hid hr2
  have H2 := Lib.hid h2
  have h3 := order2_in d (s := r2.2.2) h1.1 h2.1
  obtain ⟨r3, hr3⟩ : ∃ r, r = order2 ltInt d r1.1 r2.1 r2.2.2 := ⟨_, rfl⟩
  rw [← hr3] at h3 ⊢
  have HR3 := Lib.hid hr3
  have H3 := Lib.hid h3
  clear hr2 hr3 h1 h2 h3
  go_enter Try.func88, Try.ntmps88
  go_wp2_with fail
  refine HO.out.mono ?_
  rintro e w1 ⟨rfl, hS⟩
  have HO := Lib.hid (order2_any hS cap H1.out.2.1 hc (by have := H1.out; omega))
  rw [← HR2.out] at HO
  clear hS
  go_wp2_with fail
  refine HO.out.mono ?_
  rintro e w2 ⟨rfl, hS⟩
  have HO := Lib.hid (order2_any hS cap H1.out.1 H2.out.1 (by have := H1.out; have := H2.out; omega))
  rw [← HR3.out] at HO
  clear hS
  go_wp2_with fail
  refine HO.out.mono ?_
  rintro e w3 ⟨rfl, hS⟩
  have HS := Lib.hid hS
  clear hS
  go_wp2_with fail
  go_ret
  exact ⟨rfl, HS.out⟩
set_option maxRecDepth 100000 in
set_option maxHeartbeats 1000000 in
theorem medianAdj_any (h : SW w0 blk off N d0 d sp n w) (cap : Nat) {a : Nat} (ha : 1 ≤ a) (hb : a + 1 < N) (hn : n < 900) : Calls Try.prog 87 #[.slice (some ⟨blk, off, none⟩) N cap, .int .i64 a, .pointer (some ⟨sp, 0, none⟩)] w fun e w' =>
    e = .returned (.int .i64 ((medianAdjacent ltInt d a n).1 : Nat)) ∧ SW w0 blk off N d0 d sp (medianAdjacent ltInt d a n).2 w' := by
  have hN := h.row.base.few
  have HM := Lib.hid (median_any h cap (a := a - 1) (b := a) (c := a + 1) (by omega) (by omega) hb hn)
  have e1 : ((a - 1 : Nat) : Int) = (a : Int) - 1 := by omega
  have e2 : ((a + 1 : Nat) : Int) = (a : Int) + 1 := by omega
  rw [e1, e2] at HM
  clear h e1 e2
  unfold medianAdjacent
  obtain ⟨r, hr⟩ : ∃ r, r = median ltInt d (a - 1) a (a + 1) n := ⟨_, rfl⟩
  rw [← hr] at HM ⊢
  clear hr
  go_enter Try.func87, Try.ntmps87
  go_wp2_with fail
  refine HM.out.mono ?_
  rintro e w1 ⟨rfl, hS⟩
  have HS := Lib.hid hS
  clear hS
  go_wp2_with fail
  go_ret
  exact ⟨rfl, HS.out⟩
def hint3 : Hint → Int
  | .increasing => 1
  | .decreasing => 2
  | .unknown => 0
/- The three places, and what is taken of them. -/
def pvR (d : Array Int) (a l : Nat) : Nat × Nat :=
  if 8 ≤ l then
    if 50 ≤ l then median ltInt d (medianAdjacent ltInt d (a + l / 4 * 1) 0).1 (medianAdjacent ltInt d (a + l / 4 * 2) (medianAdjacent ltInt d (a + l / 4 * 1) 0).2).1
      (medianAdjacent ltInt d (a + l / 4 * 3) (medianAdjacent ltInt d (a + l / 4 * 2) (medianAdjacent ltInt d (a + l / 4 * 1) 0).2).2).1
      (medianAdjacent ltInt d (a + l / 4 * 3) (medianAdjacent ltInt d (a + l / 4 * 2) (medianAdjacent ltInt d (a + l / 4 * 1) 0).2).2).2
    else median ltInt d (a + l / 4 * 1) (a + l / 4 * 2) (a + l / 4 * 3) 0
  else (a + l / 4 * 2, 0)
theorem pivot_eq (d : Array Int) (a l : Nat) : choosePivot ltInt d a (a + l) = ((pvR d a l).1, if (pvR d a l).2 = 0 then .increasing else if (pvR d a l).2 = 12 then .decreasing else .unknown) := by
  unfold choosePivot pvR
  simp only [Nat.add_sub_cancel_left, ge_iff_le]
theorem adj_in (d : Array Int) {a s M : Nat} (ha : a + 1 < M) : (medianAdjacent ltInt d a s).1 < M ∧ (medianAdjacent ltInt d a s).2 ≤ s + 3 := by
  unfold medianAdjacent
  exact median_in d (by omega) (by omega) ha
set_option maxRecDepth 100000 in
set_option maxHeartbeats 1000000 in
theorem pivot_any (h : RW w0 blk off N d0 d w) (cap : Nat) {a b l : Nat} (hl : b = a + l) (h0 : 0 < l) (hb : b ≤ N) : Calls Try.prog 76 #[.slice (some ⟨blk, off, none⟩) N cap, .int .i64 a, .int .i64 b] w fun e w' =>
    e = .returned (.tuple #[.int .i64 ((choosePivot ltInt d a b).1 : Nat), .int .i64 (hint3 (choosePivot ltInt d a b).2)]) ∧ RW w0 blk off N d0 d w' := by
  have hN := h.base.few
  have HP := Lib.hid (pivot_eq d a l)
  rw [← hl] at HP
  have hsub : (b : Int) - (a : Int) = (l : Int) := by omega
  have hq : (l : Int).tdiv 4 = ((l / 4 : Nat) : Int) := by rw [Int.tdiv_eq_ediv_of_nonneg (by omega)]; omega
  obtain ⟨q, hqq⟩ : ∃ q, q = l / 4 := ⟨_, rfl⟩
  rw [← hqq] at hq
  have hlq : 4 * q ≤ l := by omega
  have haN : a + l ≤ N := by omega
  have HQ := Lib.hid hqq
  have HS := Lib.hid (show SW w0 blk off N d0 d w.heap.size 0 (w.alloc (.cells #[.int .i64 0] 3)) from ⟨h.alloc _, Blk.new w _ _, h.le⟩)
  obtain ⟨sp, hsp⟩ : ∃ sp, sp = w.heap.size := ⟨_, rfl⟩
  rw [← hsp] at HS
  have HSP := Lib.hid hsp
  clear hl hqq hsp h
  go_enter Try.func76, Try.ntmps76
  go_upto_if 32 with fail
  rw [← HSP.out]
  generalize w.alloc (.cells #[.int .i64 0] 3) = w1 at HS ⊢
  clear HSP
  go_cut [11] from 13 to 56 (fun v wx => v = .int .i64 ((pvR d a l).1 : Nat) ∧ SW w0 blk off N d0 d sp (pvR d a l).2 wx ∧ (pvR d a l).2 ≤ 12)
  case first =>
    have e1 : a + l / 4 * 1 = a + q := by rw [← HQ.out]; omega
    have e2 : a + l / 4 * 2 = a + q * 2 := by rw [← HQ.out]
    have e3 : a + l / 4 * 3 = a + q * 3 := by rw [← HQ.out]
    have i1 : ((a + q : Nat) : Int) = (a : Int) + (q : Int) := by omega
    have i2 : ((a + q * 2 : Nat) : Int) = (a : Int) + (q : Int) * 2 := by omega
    have i3 : ((a + q * 3 : Nat) : Int) = (a : Int) + (q : Int) * 3 := by omega
    have ev : pvR d a l = pvR d a l := rfl
    conv at ev => rhs; unfold pvR
    rw [e1, e2, e3] at ev
    by_cases h8 : 8 ≤ l
    · have h8i : (8 : Int) ≤ (l : Int) := by omega
      rw [if_pos h8] at ev
      have hq2 : 2 ≤ q := by have := HQ.out; omega
      have hq3 : a + q * 3 + 1 < N := by have := HQ.out; omega
      by_cases h50 : 50 ≤ l
      · have h50i : (50 : Int) ≤ (l : Int) := by omega
        rw [if_pos h50] at ev
        have a1 := adj_in d (a := a + q) (s := 0) (M := N) (by omega)
        have HM := Lib.hid (medianAdj_any HS.out cap (a := a + q) (by omega) (by omega) (by omega))
        obtain ⟨r1, hr1⟩ : ∃ r, r = medianAdjacent ltInt d (a + q) 0 := ⟨_, rfl⟩
        rw [← hr1] at a1 HM ev
        have a2 := adj_in d (a := a + q * 2) (s := r1.2) (M := N) (by omega)
        obtain ⟨r2, hr2⟩ : ∃ r, r = medianAdjacent ltInt d (a + q * 2) r1.2 := ⟨_, rfl⟩
        rw [← hr2] at a2 ev
        have HR2 := Lib.hid hr2
        have a3 := adj_in d (a := a + q * 3) (s := r2.2) (M := N) (by omega)
        obtain ⟨r3, hr3⟩ : ∃ r, r = medianAdjacent ltInt d (a + q * 3) r2.2 := ⟨_, rfl⟩
        rw [← hr3] at a3 ev
        have HR3 := Lib.hid hr3
        have a4 := median_in d (s := r3.2) a1.1 a2.1 a3.1
        obtain ⟨r4, hr4⟩ : ∃ r, r = median ltInt d r1.1 r2.1 r3.1 r3.2 := ⟨_, rfl⟩
        rw [← hr4] at a4 ev
        have HV := Lib.hid ev
        have HR4 := Lib.hid hr4
        have A := Lib.hid (And.intro a1 (And.intro a2 (And.intro a3 a4)))
        have HI := Lib.hid (And.intro i1 (And.intro i2 i3))
        rw [i1] at HM
        clear hr1 hr2 hr3 hr4 a1 a2 a3 a4 e1 e2 e3 i1 i2 i3 ev
        go_wp2_with fail
        refine HM.out.mono ?_
        rintro e w2 ⟨rfl, hS⟩
        have HM := Lib.hid (medianAdj_any hS cap (a := a + q * 2) (by omega) (by omega) (by have := A.out; omega))
        rw [← HR2.out, HI.out.2.1] at HM
        clear hS
        go_wp2_with fail
        refine HM.out.mono ?_
        rintro e w3 ⟨rfl, hS⟩
        have HM := Lib.hid (medianAdj_any hS cap (a := a + q * 3) (by omega) (by omega) (by have := A.out; omega))
        rw [← HR3.out, HI.out.2.2] at HM
        clear hS
        go_wp2_with fail
        refine HM.out.mono ?_
        rintro e w4 ⟨rfl, hS⟩
        have HM := Lib.hid (median_any hS cap A.out.1.1 A.out.2.1.1 A.out.2.2.1.1 (by have := A.out; omega))
        rw [← HR4.out] at HM
        clear hS
        go_wp2_with fail
        refine HM.out.mono ?_
        rintro e w5 ⟨rfl, hS⟩
        have HS := Lib.hid hS
        clear hS
        go_wp2
        go_meet
        case rel => rw [HV.out]; exact ⟨rfl, HS.out, by have := A.out; omega⟩
      · have h50i : ¬ (50 : Int) ≤ (l : Int) := by omega
        rw [if_neg h50] at ev
        have a4 := median_in d (s := 0) (M := N) (show a + q < N by omega) (show a + q * 2 < N by omega) (show a + q * 3 < N by omega)
        have HM := Lib.hid (median_any HS.out cap (show a + q < N by omega) (show a + q * 2 < N by omega) (show a + q * 3 < N by omega) (by omega))
        obtain ⟨r4, hr4⟩ : ∃ r, r = median ltInt d (a + q) (a + q * 2) (a + q * 3) 0 := ⟨_, rfl⟩
        rw [← hr4] at a4 HM ev
        have HV := Lib.hid ev
        rw [i1, i2, i3] at HM
        have A := Lib.hid a4
        clear hr4 a4 e1 e2 e3 i1 i2 i3 ev
        go_wp2_with fail
        refine HM.out.mono ?_
        rintro e w5 ⟨rfl, hS⟩
        have HS := Lib.hid hS
        clear hS
        go_wp2
        go_meet
        case rel => rw [HV.out]; exact ⟨rfl, HS.out, by have := A.out; omega⟩
    · have h8i : ¬ (8 : Int) ≤ (l : Int) := by omega
      rw [if_neg h8] at ev
      have HV := Lib.hid ev
      clear e1 e2 e3 ev
      go_wp2
      go_meet
      case rel => rw [HV.out]; exact ⟨by rw [i2], HS.out, by simp⟩
  case rest =>
    obtain ⟨rfl, hS, hle⟩ := hcut
    obtain ⟨r, hr⟩ : ∃ r, r = pvR d a l := ⟨_, rfl⟩
    rw [← hr] at HP hS hle ⊢
    obtain ⟨j, n⟩ := r
    have HS := Lib.hid hS
    have s0 : wc.cell? ⟨sp, 0, none⟩ = some (.int .i64 (n : Int)) := hS.blk.cell 0
    clear hr hS HQ
    by_cases h0 : n = 0
    · have h0i : (n : Int) = 0 := by omega
      have HP2 := Lib.hid (HP.out.trans (show _ = (j, Hint.increasing) from by simp only [h0]; rfl))
      clear h0
      go_wp2
      go_returns
      exact ⟨by rw [HP2.out]; rfl, HS.out.row⟩
    · have h0i : ¬ (n : Int) = 0 := by omega
      by_cases h12 : n = 12
      · have h12i : (n : Int) = 12 := by omega
        have HP2 := Lib.hid (HP.out.trans (show _ = (j, Hint.decreasing) from by simp only [h12]; rfl))
        clear h0 h12
        go_wp2
        go_returns
        exact ⟨by rw [HP2.out]; rfl, HS.out.row⟩
      · have h12i : ¬ (n : Int) = 12 := by omega
        have HP2 := Lib.hid (HP.out.trans (show _ = (j, Hint.unknown) from by simp only [h0, h12]; rfl))
        clear h0 h12
        go_wp2
        go_returns
        exact ⟨by rw [HP2.out]; rfl, HS.out.row⟩
end
end Go.Proofs.Ytgjofinbdigmcaa.Srt

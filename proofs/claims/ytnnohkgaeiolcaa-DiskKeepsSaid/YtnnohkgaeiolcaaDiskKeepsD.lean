/- The walk of DiskKeeps where there is room. MADE BY gen-keeps.py -/
import Derived.Test.YtnnohkgaeiolcaaDiskKeepsB
import Derived.BigQuiet
import Derived.Deep.QuietTactic
import Derived.Deep.RegionHeld3
namespace Go.Proofs.Ytnnohkgaeiolcaa.Disk
open Go.Proofs.Ytnnohkgaeiolcaa.Mem
open Go.ChangeShapes Go.WideShapes Go.ChangeAt Go.RowKit
set_option linter.unusedVariables false
set_option linter.unusedSimpArgs false
section
variable (c : Int) (a : Option Addr) (la ca : Nat) (b : Option Addr) (lb cb : Nat) (keep : Int) (l : Option Addr) (ll cl : Nat) (w : World)
set_option maxRecDepth 100000 in
set_option maxHeartbeats 4000000 in
theorem keeps_zero_nil (A Z : List Int)  (hra : Row w a la A) (hna : a = none → ca = 0) (hrb : Row w b lb Z) (hnb : b = none → cb = 0) (hla : la ≤ 1000) (hlb : lb ≤ 1000) (hll : ll ≤ 100) (hc : 0 ≤ c) (hs2 : ((la + lb : Nat) : Int) ≤ c) (hds : Deeds w w.heap.size l ll) (hkm : keep ≤ 9223372036854775807)
    (hlcb : lb ≤ cb) (hcbm : cb ≤ 9223372036854775807) (hn : ((0 : Nat) : Int) = min (max keep 0) (lb : Int)) (hnl : 0 ≤ lb) (hk0 : keep ≤ 0) (hbs : b = none) (hlb0 : lb = 0) (hcb0 : cb = 0) :
    Calls Try.prog 4 #[.int .i64 c, .slice a la ca, .slice b lb cb, .int .i64 keep, .slice l ll cl] w fun e w' => e = .returned (.bool true) ∧ Below w.heap.size w w' := by
  have v1 : decide (0 < keep) = false := by simpa using hk0
  have t1 : decide (1000 < (la : Int)) = false := by simp; omega
  have t2 : decide (1000 < (lb : Int)) = false := by simp; omega
  have t3 : decide (100 < (ll : Int)) = false := by simp; omega
  have t4 : decide (c < 0) = false := by simpa using hc
  have u1 : (la : Int) ≤ 1000 := by omega
  have u2 : (lb : Int) ≤ 1000 := by omega
  have u5 : (cb : Int) ≤ 9223372036854775807 := by omega
  have hlo : ∀ q, a = some q → 0 < la → q.block < w.heap.size := fun q hq hn => by
    obtain ⟨b', o', h1, h2, _⟩ := hra.2.2 hn
    rw [h1] at hq; injection hq with hq; subst hq; exact h2
  have hlob : ∀ q, b = some q → 0 < lb → q.block < w.heap.size := fun q hq hn => by
    obtain ⟨b', o', h1, h2, _⟩ := hrb.2.2 hn
    rw [h1] at hq; injection hq with hq; subst hq; exact h2
  have HLO := Lib.hid hlo
  have HLOB := Lib.hid hlob
  have HRA := Lib.hid hra
  have HRB := Lib.hid hrb
  have HAL := Lib.hid hra.1
  have HBL := Lib.hid hrb.1
  have HC2 := Lib.hid hs2
  have HDS := Lib.hid hds
  have HLL := Lib.hid hll
  have hs : (la : Int) ≤ c := by omega
  have HC := Lib.hid hs
  have HN := Lib.hid hn
  have HNL := Lib.hid hnl
  have HNA := Lib.hid hna
  have HNB := Lib.hid hnb
  subst hbs
  subst hlb0
  subst hcb0
  clear hlo hlob hra hrb hs hs2 hla hlb hll hc hds hn hnl hlcb hcbm hna hnb
  go_enter Try.func4, Try.ntmps4
  go_wp2_with fail
  refine (up_any w).mono ?_
  rintro e w0 ⟨rfl, hb0⟩
  go_wp2_with fail
  refine (mine_new c w0 (B := w.heap.size) hb0.size).mono ?_
  rintro e w1 ⟨p, rfl, hM, hb⟩
  have hb := hb0.trans hb
  clear hb0
  go_wp2_with fail
  refine (k_create hM).mono ?_
  rintro e w2 ⟨rfl, hM2, hb2⟩
  have hb2 := hb.trans hb2
  clear hM hb
  go_wp2_with fail
  refine (k_append hM2 a la ca (HRA.out.below hb2) HNA.out HLO.out (by simp only [List.length_nil]; omega) (by simp only [List.length_nil]; have := HC.out; omega)).mono ?_
  rintro e w3 ⟨rfl, hM3, hb3⟩
  have hb3 := hb2.trans hb3
  rw [List.nil_append] at hM3
  clear hM2 hb2
  go_wp2_with fail
  refine (k_sync hM3 (by rw [HAL.out]; omega)).mono ?_
  rintro e w4 ⟨rfl, hM4, hb4⟩
  have hb4 := hb3.trans hb4
  clear hM3 hb3
  go_wp2_with fail
  refine (k_append hM4 none 0 0 (HRB.out.below hb4) (fun _ => rfl) (fun q hq => by cases hq) (by rw [HAL.out]; omega) (by rw [HAL.out]; exact HC2.out)).mono ?_
  rintro e w5 ⟨rfl, hM5, hb5⟩
  have hb5 := hb4.trans hb5
  clear hM4 hb4
  go_wp2_with fail
  refine (k_plan hM5 keep (by omega)).mono ?_
  rintro e w6 ⟨rfl, hM6, hb6⟩
  have hb6 := hb5.trans hb6
  clear hM5 hb5
  go_wp2_with fail
  refine (k_crash hM6 (by show (A ++ Z).length ≤ _; rw [List.length_append, HAL.out, HBL.out]; omega)).mono ?_
  rintro e w7 ⟨rfl, hM7, hb7⟩
  have hb7 := hb6.trans hb7
  rw [ks_trunc A Z keep 0 (by rw [HBL.out]; exact HN.out)] at hM7
  clear hM6 hb6
  go_wp2_with fail
  refine (k_down hM7).mono ?_
  rintro e w' ⟨rfl, rfl⟩
  go_wp2_with fail
  refine (k_open hM7).mono ?_
  rintro e w8 ⟨rfl, hM8, hb8⟩
  have hb8 := hb7.trans hb8
  clear hM7 hb7
  have hfl : (A ++ Z.take 0).length = la + 0 := by rw [List.length_append, List.length_take, HAL.out, HBL.out]; have := HNL.out; omega
  obtain ⟨N, hN⟩ : ∃ N, N = la + 0 := ⟨_, rfl⟩
  rw [← hN] at hfl
  have HFL := Lib.hid hfl
  have HNN := Lib.hid hN
  clear hfl hN
  go_wp2_with fail
  refine (k_read hM8 N HFL.out (by have := HNN.out; have := HNL.out; omega) ((la : Int)) (by have := HNN.out; omega)).mono ?_
  rintro e w9 ⟨ra, rc, rfl, hrow9, hM9, hb9⟩
  have hb9 := hb8.trans hb9
  clear hM8 hb8
  go_wp2_with fail
  refine (k_len hM9 N HFL.out).mono ?_
  rintro e w' ⟨rfl, rfl⟩
  have kn := code_neq
  have hrowa := HRA.out.below hb9
  have hrowb := row_take (n := 0) (HRB.out.below hb9) HNL.out
  have s1 := fun nq => run_string_row (P := Try.prog) (w := w9.drewN nq) hrow9 30 5 9 Try.underlying30 Try.underlying5 Try.underlying9 rc
  have s2 := fun nq => run_string_row (P := Try.prog) (w := w9.drewN nq) hrowa 30 5 9 Try.underlying30 Try.underlying5 Try.underlying9 ca
  have s3 := fun nq (q : Nat) => run_string_row (P := Try.prog) (w := w9.drewN nq) hrowb 30 5 9 Try.underlying30 Try.underlying5 Try.underlying9 q
  have hXY : (!(strOfNums (A ++ Z.take 0)).toList == (strOfNums A ++ strOfNums (Z.take 0)).toList) = false := by rw [strOf_append, beq_self_eq_true]; rfl
  have hlim : ¬ 9223372036854775807 < (strOfNums A).size + (strOfNums (Z.take 0)).size := by rw [strOf_size, strOf_size, List.length_take, HAL.out]; omega
  have hNe : ((N : Int) != (la : Int)) = false := by have := HNN.out; simp; omega
  have hw9 : IntKind.i64.wrap ((la : Int)) = (la : Int) := by rw [IntKind.wrap_i64]; omega
  obtain ⟨X, hX⟩ : ∃ X, X = strOfNums (A ++ Z.take 0) := ⟨_, rfl⟩
  obtain ⟨Y1, hY1⟩ : ∃ X, X = strOfNums A := ⟨_, rfl⟩
  obtain ⟨Y2, hY2⟩ : ∃ X, X = strOfNums (Z.take 0) := ⟨_, rfl⟩
  simp only [← hX] at s1 hXY
  simp only [← hY1] at s2 hXY hlim
  simp only [← hY2] at s3 hXY hlim
  clear hX hY1 hY2 hrowa hrowb hrow9
  go_wp2_with fail
  go_quiet (fail)
  obtain ⟨W, hW⟩ : ∃ W, W = w9.drewN nq := ⟨_, rfl⟩
  have hMW : Mine w.heap.size W p (KS c ⟨A ++ Z.take 0, A.length + 0⟩ (wrap64 (wrap64 (wrap64 (wrap64 (0 + 1) + 1) + 1) + 1)) none false) := by rw [hW]; exact hM9.below (below_drewN (Below.refl _ _) _)
  have hbW : Below w.heap.size w W := by rw [hW]; exact below_drewN hb9 _
  rw [← hW]
  clear hW hM9 hb9 s1 s2 s3 hXY hlim hNe hw9
  have hgW := hMW.good
  have huW : used (KS c ⟨A ++ Z.take 0, A.length + 0⟩ (wrap64 (wrap64 (wrap64 (wrap64 (0 + 1) + 1) + 1) + 1)) none false) = N := by rw [used_KS]; exact HFL.out
  have HST : Hid (KRel w.heap.size w p c ll (.int .i64 0) W) := Lib.hid ⟨0, Nat.zero_le _, rfl, _, hMW, rfl, by rw [huW, HNN.out]; have := HNL.out; omega, by rw [huW, HNN.out]; have := HNL.out; have := HC2.out; omega, hbW⟩
  clear hgW huW hMW hbW
  go_wp2_with fail
  go_loopw [21] (fun i wr => KRel w.heap.size w p c ll i wr) (fun i _ => ll - (intOf i).toNat)
  case atStart => exact HST.out
  case round =>
    obtain ⟨k, hk, rfl, S, hM, hcap, hus, huc, hbw⟩ := hrel
    by_cases hlt : k < ll
    · obtain ⟨lbk, loff, hl, hllt, hdd⟩ := HDS.out.below hbw (by omega)
      obtain ⟨d, hd⟩ := hdd k hlt
      clear hdd
      subst hl
      have HD := Lib.hid hd
      have HM := Lib.hid hM
      have HCP := Lib.hid hcap
      have HUS := Lib.hid hus
      have HUC := Lib.hid huc
      have HBW := Lib.hid hbw
      have d1 := hd.c1
      have d3 := hd.c3
      have i0 : (0 : Int) ≤ (k : Int) := Int.natCast_nonneg _
      have i1 : (k : Int) < (ll : Int) := by omega
      have i2 : (k : Int) ≤ 100 := by have := HLL.out; omega
      clear hd hM hcap hus huc hbw
      by_cases q1 : 1000 < (d.blen : Int)
      · have q1' : decide (1000 < (d.blen : Int)) = true := by simpa using q1
        clear q1
        go_wp2
        go_ret
        exact ⟨rfl, HBW.out⟩
      · have q1' : decide (1000 < (d.blen : Int)) = false := by simpa using q1
        by_cases q2 : 100 < (d.name.size : Int)
        · have q2' : decide (100 < (d.name.size : Int)) = true := by simpa using q2
          clear q1 q2
          go_wp2
          go_ret
          exact ⟨rfl, HBW.out⟩
        · have q2' : decide (100 < (d.name.size : Int)) = false := by simpa using q2
          have hnm : d.name.size ≤ maxLen := by unfold maxLen; omega
          have hbl : d.blen ≤ 1000 := by omega
          have HNM := Lib.hid hnm
          have HBL2 := Lib.hid hbl
          clear q1 q2 hnm hbl
          go_wp2_with fail
          refine (mine_create HM.out (by have := HUS.out; have := HLL.out; omega) d.name HNM.out).mono ?_
          rintro x w10 ⟨rfl, hM10, hb10a⟩
          obtain ⟨E1, hE1⟩ : ∃ E1, E1 = errV (create S d.name.data.toList).1 := ⟨_, rfl⟩
          rw [← hE1]
          clear hE1
          have hb10 := HBW.out.trans hb10a
          have hd10 := HD.out.below hb10a hllt
          have e1 := hd10.c1
          have e3 := hd10.c3
          have HD10 := Lib.hid hd10
          have HM10 := Lib.hid hM10
          have HB10 := Lib.hid hb10
          have hg1 := grows_create S d.name.data.toList
          have HG1 := Lib.hid hg1
          have hap1 := hM10.good.apart
          have HAP1 := Lib.hid hap1
          clear hd10 hM10 hb10 hb10a hg1 hap1 d1 d3
          go_wp2_with fail
          refine wp_region_held_drew (S := (fun w' => w'.cell? ⟨lbk, loff + k * 6 + 1, none⟩ = some (.string d.name) ∧ w'.cell? ⟨lbk, loff + k * 6 + 3, none⟩ = some (.slice d.ba d.blen d.bcap))) (by kernel_rfl) ?_ (fun hH => ?_)
          · exact ⟨e1, e3⟩
          refine wpAnyH_take (i := 0) (v := ?_) (by simp only [List.getElem?_toArray, List.getElem?_cons_succ, List.getElem?_cons_zero]; rfl) (by kernel_rfl) (by kernel_rfl) (by kernel_rfl) (by exact fun _ _ _ h => h) (Or.inl ⟨by rfl, ?_⟩) hH ?_
          rotate_left
          · (intro wy hSw; (try dsimp only at hSw); go_simp; try (with_reducible rfl))
          try simp only [Act.put, List.setIfInBounds_toArray, List.set_cons_zero, List.set_cons_succ]
          refine wpAnyH_take (i := 1) (v := ?_) (by simp only [List.getElem?_toArray, List.getElem?_cons_succ, List.getElem?_cons_zero]; rfl) (by kernel_rfl) (by kernel_rfl) (by kernel_rfl) (by exact fun _ _ _ h => h) (Or.inl ⟨by rfl, ?_⟩) hH ?_
          rotate_left
          · (intro wy hSw; (try dsimp only at hSw); go_simp; try (with_reducible rfl))
          try simp only [Act.put, List.setIfInBounds_toArray, List.set_cons_zero, List.set_cons_succ]
          refine wpAnyH_take (i := 2) (v := ?_) (by simp only [List.getElem?_toArray, List.getElem?_cons_succ, List.getElem?_cons_zero]; rfl) (by kernel_rfl) (by kernel_rfl) (by kernel_rfl) (by exact fun _ _ _ h => h) (Or.inl ⟨by rfl, ?_⟩) hH ?_
          rotate_left
          · (intro wy hSw; (try dsimp only at hSw); go_simp; try (with_reducible rfl))
          try simp only [Act.put, List.setIfInBounds_toArray, List.set_cons_zero, List.set_cons_succ]
          refine wpAnyH_take (i := 3) (v := ?_) (by simp only [List.getElem?_toArray, List.getElem?_cons_succ, List.getElem?_cons_zero]; rfl) (by kernel_rfl) (by kernel_rfl) (by kernel_rfl) (by exact fun _ _ _ h => h) (Or.inl ⟨by rfl, ?_⟩) hH ?_
          rotate_left
          · (intro wy hSw; (try dsimp only at hSw); go_simp; try (with_reducible rfl))
          try simp only [Act.put, List.setIfInBounds_toArray, List.set_cons_zero, List.set_cons_succ]
          refine wpAnyH_take (i := 4) (v := ?_) (by simp only [List.getElem?_toArray, List.getElem?_cons_succ, List.getElem?_cons_zero]; rfl) (by kernel_rfl) (by kernel_rfl) (by kernel_rfl) (by exact fun _ _ _ h => h) (Or.inl ⟨by rfl, ?_⟩) hH ?_
          rotate_left
          · (intro wy hSw; (try dsimp only at hSw); go_simp; try (with_reducible rfl))
          try simp only [Act.put, List.setIfInBounds_toArray, List.set_cons_zero, List.set_cons_succ]
          refine wpAnyH_take (i := 5) (v := ?_) (by simp only [List.getElem?_toArray, List.getElem?_cons_succ, List.getElem?_cons_zero]; rfl) (by kernel_rfl) (by kernel_rfl) (by kernel_rfl) (by exact fun _ _ _ h => h) (Or.inl ⟨by rfl, ?_⟩) hH ?_
          rotate_left
          · (intro wy hSw; (try dsimp only at hSw); go_simp; try (with_reducible rfl))
          try simp only [Act.put, List.setIfInBounds_toArray, List.set_cons_zero, List.set_cons_succ]
          refine wpAnyH_take (i := 6) (v := ?_) (by simp only [List.getElem?_toArray, List.getElem?_cons_succ, List.getElem?_cons_zero]; rfl) (by kernel_rfl) (by kernel_rfl) (by kernel_rfl) (by exact fun _ _ _ h => h) (Or.inl ⟨by rfl, ?_⟩) hH ?_
          rotate_left
          · (intro wy hSw; (try dsimp only at hSw); go_simp; try (with_reducible rfl))
          try simp only [Act.put, List.setIfInBounds_toArray, List.set_cons_zero, List.set_cons_succ]
          refine wpAnyH_take (i := 7) (v := ?_) (by simp only [List.getElem?_toArray, List.getElem?_cons_succ, List.getElem?_cons_zero]; rfl) (by kernel_rfl) (by kernel_rfl) (by kernel_rfl) (by exact fun _ _ _ h => h) (Or.inl ⟨by rfl, ?_⟩) hH ?_
          rotate_left
          · (intro wy hSw; (try dsimp only at hSw); go_simp; try (with_reducible rfl))
          try simp only [Act.put, List.setIfInBounds_toArray, List.set_cons_zero, List.set_cons_succ]
          refine wpAnyH_take (i := 8) (v := ?_) (by simp only [List.getElem?_toArray, List.getElem?_cons_succ, List.getElem?_cons_zero]; rfl) (by kernel_rfl) (by kernel_rfl) (by kernel_rfl) (by exact fun _ _ _ h => h) (Or.inl ⟨by rfl, ?_⟩) hH ?_
          rotate_left
          · (intro wy hSw; (try dsimp only at hSw); go_simp; try (with_reducible rfl))
          try simp only [Act.put, List.setIfInBounds_toArray, List.set_cons_zero, List.set_cons_succ]
          refine wpAnyH_take (i := 9) (v := ?_) (by simp only [List.getElem?_toArray, List.getElem?_cons_succ, List.getElem?_cons_zero]; rfl) (by kernel_rfl) (by kernel_rfl) (by kernel_rfl) (by exact fun _ _ _ h => h) (Or.inl ⟨by rfl, ?_⟩) hH ?_
          rotate_left
          · (intro wy hSw; (try dsimp only at hSw); go_simp; try (with_reducible rfl))
          try simp only [Act.put, List.setIfInBounds_toArray, List.set_cons_zero, List.set_cons_succ]
          refine wpAnyH_take (i := 10) (v := ?_) (by simp only [List.getElem?_toArray, List.getElem?_cons_succ, List.getElem?_cons_zero]; rfl) (by kernel_rfl) (by kernel_rfl) (by kernel_rfl) (by exact fun _ _ _ h => h) (Or.inl ⟨by rfl, ?_⟩) hH ?_
          rotate_left
          · (intro wy hSw; (try dsimp only at hSw); go_simp; try (with_reducible rfl))
          try simp only [Act.put, List.setIfInBounds_toArray, List.set_cons_zero, List.set_cons_succ]
          refine wpAnyH_ready (rs := [11]) (by kernel_rfl) (by simp) ?_
          refine AllReadyH.cons (by simp only [List.getElem?_toArray, List.getElem?_cons_succ, List.getElem?_cons_zero]; rfl) (fun K hK => ?_) AllReadyH.nil
          clear hH
          go_simp
          go_at_call 9
          refine (mine_append HM10.out ((Below.refl _ w10).drew) d.name HNM.out d.ba d.blen d.bcap d.bs (HD10.out.row) HD10.out.nil (fun q hq hn => .inl (HD10.out.low q hq hn)) (by have := HG1.out.2.1; have := HUS.out; have := HBL2.out; have := HLL.out; omega)).mono ?_
          rintro x w11 ⟨rfl, hM11, hb11⟩
          refine hK.out _ _ ?_ (fun hH => ?_)
          · exact ⟨(hb11.cell (p := ⟨lbk, loff + k * 6 + 1, none⟩) hllt).trans e1, (hb11.cell (p := ⟨lbk, loff + k * 6 + 3, none⟩) hllt).trans e3⟩
          clear hK K
          try simp only [Act.put, List.setIfInBounds_toArray, List.set_cons_zero, List.set_cons_succ]
          refine wpAnyH_done (by kernel_rfl) ?_ _
          have hb11 : Below w.heap.size w w11 := (HB10.out.drew).trans hb11
          clear HD10
          have hM11' := hM11
          obtain ⟨S2, hS2⟩ : ∃ S2, S2 = (append (create S d.name.data.toList).2 d.name.data.toList d.bs).2 := ⟨_, rfl⟩
          rw [← hS2] at hM11
          have HK : Hid (∀ w3, Mine w.heap.size w3 p S2 → Below w.heap.size w w3 → KRel w.heap.size w p c ll (.int .i64 ((k : Int) + 1)) w3) := Lib.hid (fun w3 h1 h2 => krel_step hlt HCP.out HUS.out HUC.out HM.out.good.apart HAP1.out (by rw [HD.out.row.1]; exact HBL2.out) (hS2 ▸ h1) h2)
          have hu2 := HK.out w11 hM11 hb11
          obtain ⟨k2, hk2, he2, S3, hM3, hc3, hu3, huc3, _⟩ := hu2
          have hq : used S2 ≤ 2000 + 1000 * (k + 1) ∧ (used S2 : Int) ≤ c := by
            have g1 := HG1.out
            have g2 := grows_append (create S d.name.data.toList).2 d.name.data.toList d.bs HAP1.out
            have z1 : d.bs.length ≤ 1000 := by rw [HD.out.row.1]; exact HBL2.out
            rw [← hS2] at g2
            have a1 := HUS.out
            have a2 := HUC.out
            have a3 := HCP.out
            refine ⟨by have := g1.2.1; have := g2.2.1; omega, ?_⟩
            have b1 := g1.2.2 (by rw [a3]; exact a2)
            have b2 := g2.2.2 b1
            rw [g2.1, g1.1, a3] at b2
            exact b2
          have HQ := Lib.hid hq
          have HM11 := Lib.hid hM11
          have HB11 := Lib.hid hb11
          clear hk2 he2 hM3 hc3 hu3 huc3 hq hM11 hM11' hb11 hS2 e1 e3
          go_wp2_with fail
          refine (mine_used HM11.out (by have := HQ.out.1; have := HLL.out; omega)).mono ?_
          rintro x w12 ⟨rfl, hM12, hb12⟩
          obtain ⟨U2, hU2⟩ : ∃ U2 : Int, U2 = (used S2 : Int) := ⟨_, rfl⟩
          rw [← hU2]
          have r1 : decide (c < U2) = false := by rw [hU2]; simp; exact HQ.out.2
          have HX := Lib.hid (HK.out w12 hM12 (HB11.out.trans hb12))
          clear hU2 hM12 hb12
          go_wp2
          go_roundw
          case rel => exact HX.out
          case measure => simp [intOf]; omega
    · go_wp2
      go_ret
      exact ⟨rfl, hbw⟩
end
end Go.Proofs.Ytnnohkgaeiolcaa.Disk

/- TornScans: the walk of the law. -/
import Derived.Test.YtgfhcbdhggnbaaaTornA
namespace Go.Proofs.Ytgfhcbdhggnbaaa.Torn
open Go.Proofs.Ytgfhcbdhggnbaaa.Mem Go.Proofs.Ytgfhcbdhggnbaaa.Err
open Go.Proofs.Ytgfhcbdhggnbaaa.Rec (Rcd recsOf Is May okBody Recs rcl)
open Go.Proofs.Ytgfhcbdhggnbaaa.Frame (In)
open Go.ChangeShapes Go.WideShapes Go.ChangeAt Go.RowKit
set_option linter.unusedVariables false
set_option linter.unusedSimpArgs false

set_option maxHeartbeats 1000000 in
theorem scans_long (a : Option Addr) (len cap : Nat) (w : World) (hl : 5000 < len) (hm : len ≤ 9223372036854775807) :
    Calls Try.prog 3 #[.slice a len cap] w fun e w' => e = .returned (.bool true) ∧ Below w.heap.size w w' := by
  go_enter Try.func3, Try.ntmps3
  go_wp2_with fail
  refine (up_any w).mono ?_
  rintro e w1 ⟨rfl, hb1⟩
  go_wp2_with fail
  go_ret
  exact ⟨rfl, hb1⟩
set_option maxRecDepth 100000 in
set_option maxHeartbeats 1000000 in
theorem scans_any (a : Option Addr) (L cap : Nat) (zs : List Int) (w : World) (h : In w a L cap zs) (hl : L ≤ 5000) :
    Calls Try.prog 3 #[.slice a L cap] w fun e w' => e = .returned (.bool true) ∧ Below w.heap.size w w' := by
  have hw := isWhole_int zs
  have hzl := h.row.1
  rw [hzl] at hw
  have hts := tot_le hzl
  have HIN := Lib.hid h
  have HSC := Lib.hid (fun w1 hw => scan_any a L cap zs w1 hw (by omega))
  have HRF := Lib.hid (fun w1 hw => refScan_any a L cap zs w1 hw (by omega))
  have HWH := Lib.hid (fun w1 hw => whole_any a L cap zs w1 hw (by omega))
  have HFW := Lib.hid (fun (p : Pc) (hp : p ∈ scan 0 zs) => scan_few hp)
  obtain ⟨t, ht⟩ : ∃ t : Int, t = ((total (scan 0 zs) : Nat) : Int) := ⟨_, rfl⟩
  have HT := Lib.hid ht
  obtain ⟨n, hn⟩ : ∃ n, n = (scan 0 zs).length := ⟨_, rfl⟩
  rw [← hn] at hts
  have hn5 : n ≤ 5000 := by omega
  have HN := Lib.hid hn
  rw [← ht] at hw
  have HZL := Lib.hid hzl
  obtain ⟨b, hb⟩ : ∃ b, b = isWhole zs := ⟨_, rfl⟩
  rw [← hb] at hw
  have HBB := Lib.hid hb
  have HQ := Lib.hid hw
  clear h hw hzl hts ht hn hb
  go_enter Try.func3, Try.ntmps3
  go_wp2_with fail
  refine (up_any w).mono ?_
  rintro e w1 ⟨rfl, hb1⟩
  have hin1 := HIN.out.below hb1
  have HX1 := Lib.hid (And.intro hb1 hin1)
  clear hb1 hin1
  go_wp2_with fail
  refine (HSC.out w1 HX1.out.2).mono ?_
  rintro e w2 ⟨hb2, gs, a2, c2, hgs, rfl, hpc⟩
  rw [← HT.out]
  have hgn : gs.length = n := by rw [HN.out, ← hgs, List.length_map]
  rw [hgn]
  have HX2 := Lib.hid (And.intro (HX1.out.1.trans (hb2.mono HX1.out.1.size)) (And.intro (HX1.out.2.below hb2) (And.intro hgs (And.intro hpc hgn))))
  clear hb2 hgs hpc hgn HX1
  go_wp2_with fail
  refine (HRF.out w2 HX2.out.2.1).mono ?_
  rintro e w3 ⟨hb3, gs', a3, c3, hgs', rfl, hpc'⟩
  rw [← HT.out]
  have htt : (t == t) = true := by simp
  obtain ⟨hbw2, hin2, hgs, hpc, hgn⟩ := HX2.out
  have hfew : ∀ g ∈ gs, g.p.l.length ≤ 1000000 := fun g hg => by
    have h1 := HFW.out g.p (by rw [← hgs]; exact List.mem_map_of_mem hg)
    rw [HZL.out] at h1
    omega
  have HSAME := Lib.hid (psame_yes a2 a3 c2 c3 n gs gs' w3 (hpc.below hb3) hpc' (hgs.trans hgs'.symm) hgn.symm (by omega) hfew)
  have HX3 := Lib.hid (And.intro (hbw2.trans (hb3.mono hbw2.size)) (hin2.below hb3))
  clear hb3 hgs' hpc' hbw2 hin2 hgs hpc hgn hfew HX2
  go_wp2_with fail
  refine HSAME.out.mono ?_
  rintro e w4 ⟨rfl, m, rfl⟩
  have hb4 := below_drewN0 w3 m
  have HX4 := Lib.hid (And.intro (HX3.out.1.trans (hb4.mono HX3.out.1.size)) (HX3.out.2.below hb4))
  clear hb4 HX3 HSAME
  go_wp2_with fail
  refine (HWH.out _ HX4.out.2).mono ?_
  rw [← HBB.out]
  rintro e w5 ⟨rfl, hb5⟩
  have HB5 := Lib.hid (HX4.out.1.trans (hb5.mono HX4.out.1.size))
  have hq := HQ.out
  have hbb : (b == b) = true := by simp
  clear hb5
  go_wp2_with fail
  go_ret
  exact ⟨rfl, HB5.out⟩
end Go.Proofs.Ytgfhcbdhggnbaaa.Torn

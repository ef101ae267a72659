/- The walk of the law of segments: SeglogRotates. -/
import Derived.Test.YtkppliljlcihmaaGreatDoorGU
import Derived.Test.YtkppliljlcihmaaGreatDoorGV
import Derived.Test.YtkppliljlcihmaaGreatDoorErr
import Derived.Maps.OwnOps
namespace Go.Proofs.YtkppliljlcihmaaGreatDoor.Seg
open Go.Proofs.YtkppliljlcihmaaGreatDoor.Mem
open Go.Proofs.YtkppliljlcihmaaGreatDoor.Disk (Nm File St Eff Has grow errV used run tot)
open Go.Proofs.YtkppliljlcihmaaGreatDoor.Rec (Rcd Recs Is okBody few_at FewAt)
open Go.Proofs.YtkppliljlcihmaaGreatDoor.Frame (frm)
open Go.Proofs.YtkppliljlcihmaaGreatDoor.Torn (frames size Lists)
open Go.ChangeShapes Go.WideShapes Go.ChangeAt Go.RowKit
set_option linter.unusedVariables false
set_option linter.unusedSimpArgs false

theorem frames_many (ls : List (List Rcd)) : ls.length ≤ (frames ls).length := by
  induction ls with
  | nil => exact Nat.zero_le _
  | cons l r ih =>
    rw [Torn.frames_cons, List.length_append, Torn.frm_size, List.length_cons]
    unfold size
    omega
/- More than the statement speaks of: the head's answer. -/
set_option maxRecDepth 100000 in
set_option maxHeartbeats 1000000 in
theorem rotates_away (limit : Int) (a : Option Addr) (len cap : Nat) (oa : Option Addr) (ol oc : Nat) (w : World) (hl : len ≤ 9223372036854775807) (ho : ol ≤ 9223372036854775807) (h : limit < 100 ∨ 100000 < limit ∨ 40 < len ∨ 1000 < ol) :
    Calls Tryz.prog 4 #[.int .i64 limit, .slice a len cap, .slice oa ol oc] w fun e w' => e = .returned (.bool true) ∧ Below w.heap.size w w' := by
  by_cases h1 : limit < 100
  · have t1 : decide (limit < 100) = true := decide_eq_true h1
    clear h h1
    go_enter Tryz.func4, Tryz.ntmps4
    go_wp2_with fail
    refine (up_any w).mono ?_
    rintro e w1 ⟨rfl, hb1⟩
    have HB1 := Lib.hid hb1
    clear hb1
    go_wp2_with fail
    go_ret
    exact ⟨rfl, HB1.out⟩
  · have t1 : decide (limit < 100) = false := decide_eq_false h1
    by_cases h2 : 100000 < limit
    · have t2 : decide (100000 < limit) = true := decide_eq_true h2
      clear h h1 h2
      go_enter Tryz.func4, Tryz.ntmps4
      go_wp2_with fail
      refine (up_any w).mono ?_
      rintro e w1 ⟨rfl, hb1⟩
      have HB1 := Lib.hid hb1
      clear hb1
      go_wp2_with fail
      go_ret
      exact ⟨rfl, HB1.out⟩
    · have t2 : decide (100000 < limit) = false := decide_eq_false h2
      by_cases h3 : 40 < len
      · have t3 : decide ((40 : Int) < (len : Int)) = true := decide_eq_true (by omega)
        have t3b : decide (40 < len) = true := decide_eq_true h3
        clear h h1 h2 h3
        go_enter Tryz.func4, Tryz.ntmps4
        go_wp2_with fail
        refine (up_any w).mono ?_
        rintro e w1 ⟨rfl, hb1⟩
        have HB1 := Lib.hid hb1
        clear hb1
        go_wp2_with fail
        go_ret
        exact ⟨rfl, HB1.out⟩
      · have t3 : decide ((40 : Int) < (len : Int)) = false := decide_eq_false (by omega)
        have t3b : decide (40 < len) = false := decide_eq_false h3
        have h4 : 1000 < ol := by omega
        have t4 : decide ((1000 : Int) < (ol : Int)) = true := decide_eq_true (by omega)
        have t4b : decide (1000 < ol) = true := decide_eq_true h4
        clear h h1 h2 h3 h4
        go_enter Tryz.func4, Tryz.ntmps4
        go_wp2_with fail
        refine (up_any w).mono ?_
        rintro e w1 ⟨rfl, hb1⟩
        have HB1 := Lib.hid hb1
        clear hb1
        go_wp2_with fail
        go_ret
        exact ⟨rfl, HB1.out⟩
set_option maxRecDepth 100000 in
set_option maxHeartbeats 8000000 in
theorem rotates_any (limit : Int) (a : Option Addr) (gs : List Torn.Lg) (cap : Nat) (oa : Option Addr) (ol oc : Nat) (odd : List Int) (w : World) (hl1 : 100 ≤ limit) (hl2 : limit ≤ 100000) (hg : gs.length ≤ 40) (ho : ol ≤ 1000) (hls : Lists w a gs) (hlz : ∀ x ∈ gs, x.l.length ≤ 9223372036854775807) (hrow : Row w oa ol odd) (hnil : oa = none → oc = 0) (hby : Bytes odd) (hlo : odd.length = ol) (hlt : ∀ q, oa = some q → 0 < ol → q.block < w.heap.size) (hcan : ∀ n, Can w n) :
    Calls Tryz.prog 4 #[.int .i64 limit, .slice a gs.length cap, .slice oa ol oc] w fun e w' => e = .returned (.bool true) ∧ Below w.heap.size w w' := by
  have t1 : decide (limit < 100) = false := decide_eq_false (by omega)
  have t2 : decide (100000 < limit) = false := decide_eq_false (by omega)
  have t3 : decide ((40 : Int) < (gs.length : Int)) = false := decide_eq_false (by omega)
  have t3b : decide (40 < gs.length) = false := decide_eq_false (by omega)
  have t4 : decide ((1000 : Int) < (ol : Int)) = false := decide_eq_false (by omega)
  have t4b : decide (1000 < ol) = false := decide_eq_false (by omega)
  obtain ⟨N0, hN0⟩ : ∃ N0, N0 = gs.length := ⟨_, rfl⟩
  rw [← hN0] at t3 t3b hg ⊢
  have HN0 := Lib.hid hN0
  have HLS := Lib.hid (And.intro hls hlz)
  have HODD := Lib.hid (And.intro hrow (And.intro hnil (And.intro hby (And.intro hlo (And.intro hlt hcan)))))
  have hmm := @run_makeMap Tryz.prog
  clear hls hlz hrow hnil hby hlo hlt hcan hN0
  go_enter Tryz.func4, Tryz.ntmps4
  go_wp2_with fail
  refine (up_any w).mono ?_
  rintro e w1 ⟨rfl, hb1⟩
  have HB1 := Lib.hid hb1
  clear hb1
  go_wp2_with fail
  refine (dsk_fresh 1000000 (by omega) _).mono ?_
  rintro e w2 ⟨p, rfl, hD, hB2⟩
  have c3 := open_fresh hD (limit := limit) (by omega) (by omega) (by omega)
  have HB2 := Lib.hid (And.intro hB2 (HB1.out.trans (hB2.mono HB1.out.size)))
  clear hD hB2
  go_wp2_with fail
  refine c3.mono ?_
  clear c3
  rintro e w3 ⟨T, lb, F1, g, c, vz, ap, cp, aq, cq, rfl, hS, hL, hpl, htot, hft, hbt⟩
  have HM3 := Lib.hid (show ∀ k, foot lb g vz F1 k → w.heap.size ≤ k from fun k hk => by
    have hz := HB2.out.1.size
    have hz1 := HB1.out.size
    rcases hft k hk with (h1 | h1) | h1
    · exact h1.elim
    · omega
    · omega)
  have hB3 := hbt.below HB2.out.1.size (fun k hk => hk.elim (fun h => h.elim) (fun h => h.1))
  have HB3 := Lib.hid (HB2.out.2.trans (hB3.mono HB1.out.size))
  have hm1 := World.ownsMap_made w3 Tryz.prog 3 inM
  have hm2 := World.ownsMap_made (w3.alloc (.map #[] 0)) Tryz.prog 3 inM
  have hz1 : (w3.alloc (.map #[] 0)).heap.size = w3.heap.size + 1 := by simp
  have hz2 : ((w3.alloc (.map #[] 0)).alloc (.map #[] 0)).heap.size = w3.heap.size + 2 := by simp
  have hbx : Below w3.heap.size w3 ((w3.alloc (.map #[] 0)).alloc (.map #[] 0)) := ((Below.refl _ w3).alloc (Nat.le_refl _) _).alloc (by simp) _
  rw [hz1] at hm2
  have hm1 := hm1.alloc (.map #[] 0)
  obtain ⟨W, hW⟩ : ∃ W, W = (w3.alloc (.map #[] 0)).alloc (.map #[] 0) := ⟨_, rfl⟩
  rw [← hW] at hm1 hm2 hbx hz2
  have hlt3 := hS.lt
  have HR := Lib.hid (show Rot w W p lb limit 0 1 (fun _ => []) T F1 g c vz w3.heap.size (w3.heap.size + 1) (.map []) (.map []) from
    ⟨hS.below hbx, hL, hpl, by omega, by omega, by omega, fun _ _ => rfl, HM3.out, HB3.out.trans (hbx.mono HB3.out.size), hm1, hm2, tell_first, tell_first, by omega, HB3.out.size, by have := HB3.out.size; omega, fun h => by have := hlt3 _ h; omega, fun h => by have := hlt3 _ h; omega, fun _ => .inr (Nat.zero_le _)⟩)
  clear hS hL hpl htot hft hbt hB3 hm1 hm2 hz1 hz2 hbx hlt3 HM3 HB1 HB2
  obtain ⟨mS, hmS⟩ : ∃ m, m = w3.heap.size := ⟨_, rfl⟩
  obtain ⟨mM, hmM⟩ : ∃ m, m = w3.heap.size + 1 := ⟨_, rfl⟩
  rw [← hmM, ← hmS] at HR
  clear hm1
  go_wp2_with fail
  rw [← hW, ← hmM, ← hmS]
  clear hW hmM hmS
  go_loopw [15] (fun i wr => ∃ (k n : Nat) (fr : Nat → List (List Rcd)) (T : St) (F : Nat → Prop) (g c : Nat) (vz : Value) (D1 D2 : DataW Nat), k ≤ N0 ∧ i = .int .i64 (k : Int) ∧ Rot w wr p lb limit k n fr T F g c vz mS mM D1 D2) (fun i _ => N0 - (intOf i).toNat)
  case atStart => exact ⟨0, 1, _, T, F1, g, c, vz, _, _, Nat.zero_le _, rfl, HR.out⟩
  case round =>
    clear HR T F1 g c vz
    obtain ⟨k, n, fr, T, F, g, c, vz, D1, D2, hk, rfl, hR⟩ := hrel
    by_cases hlt : k < N0
    · have hkg : k < gs.length := by rw [← HN0.out]; exact hlt
      obtain ⟨b, off, rfl, hbl, hcl⟩ := HLS.out.1.2 (by omega)
      have hcell : wr.cell? ⟨b, off + k, none⟩ = some (.slice gs[k].a gs[k].l.length gs[k].cap) := (hR.below.cell (p := ⟨b, off + k, none⟩) hbl).trans (hcl k hkg)
      have hrl := (HLS.out.1.1 gs[k] (List.getElem_mem hkg)).below (hR.below.mono (Nat.le_refl _))
      have hll := HLS.out.2 gs[k] (List.getElem_mem hkg)
      obtain ⟨ga, hga⟩ : ∃ x, x = gs[k].a := ⟨_, rfl⟩
      obtain ⟨gl, hgl⟩ : ∃ x, x = gs[k].l := ⟨_, rfl⟩
      obtain ⟨gc, hgc⟩ : ∃ x, x = gs[k].cap := ⟨_, rfl⟩
      obtain ⟨gn, hgn⟩ : ∃ x, x = gl.length := ⟨_, rfl⟩
      rw [← hga, ← hgl, ← hgc, ← hgn] at hcell
      rw [← hga, ← hgl] at hrl
      rw [← hgl] at hll
      have HRl := Lib.hid hrl
      have HGN := Lib.hid hgn
      have HRO := Lib.hid hR
      have cF := few_at 20 (by omega) ga gc gl wr hrl hll
      rw [← hgn] at cF
      clear hkg hcl hrl hll hga hgl hgc hgn hR
      go_wp2_with fail
      refine cF.mono ?_
      rintro e w' ⟨⟨z, rfl, hz⟩, rfl⟩
      clear cF
      rcases hz with ⟨rfl, hsm, hle⟩ | ⟨rfl, -⟩
      · have HSM := Lib.hid hle
        clear hsm hle
        by_cases hok : okBody gl
        · have cA := HRO.out.append (by omega) (cp := gc) HRl.out (by have := HSM.out; omega) hok
          rw [← HGN.out] at cA
          have HOK := Lib.hid hok
          clear hok
          go_wp2_with fail
          refine cA.mono ?_
          clear cA hcell
          rintro e w4 ⟨T1, F1, g1, c1, vz1, rfl, hK, hS, hL, hpl, htot, -⟩
          obtain ⟨hm1, hm2, hbm⟩ := HRO.out.mid hK
          have hbx := (Below.refl _ w4).alloc (Nat.le_refl _) (.cells #[.int .i64 (lastA limit fr n gl : Int), .int .i64 (atA limit fr n gl : Int), .int .i64 (size gl : Int)] 47)
          have hx : Disk.Blk (w4.alloc (.cells #[.int .i64 (lastA limit fr n gl : Int), .int .i64 (atA limit fr n gl : Int), .int .i64 (size gl : Int)] 47)) w4.heap.size 47 #[.int .i64 (lastA limit fr n gl : Int), .int .i64 (atA limit fr n gl : Int), .int .i64 (size gl : Int)] := Disk.Blk.new _ _ _
          have hm1 := Disk.ownsMap_but hm1 (But.of_new hbx (S := fun _ => False)) (fun e => e)
          have hm2 := Disk.ownsMap_but hm2 (But.of_new hbx (S := fun _ => False)) (fun e => e)
          have hn1 := HRO.out.n1
          have hnk := HRO.out.nk
          obtain ⟨q1, q2, q3⟩ := last_pos (limit := limit) (fr := fr) (l := gl) hn1
          have hat := at_is (limit := limit) (l := gl) (HRO.out.off (n + 1) (by omega))
          have k1 := look_nat hm1 HRO.out.t1 (lastA limit fr n gl) (by omega)
          rw [← hat] at k1
          have hsz : size gl ≤ 20008 := by have := HOK.out.2.2; have h5 : size gl = (Rec.body gl).length + 8 := rfl; omega
          have hAz : atA limit fr n gl ≤ 1000000 := by
            have hmem : lastA limit fr n gl ∈ numsA limit (List.range' 1 n) fr n gl := by rw [nums_rise, List.mem_range'_1]; omega
            have h1 := hL.inv.segs _ hmem
            have h2 : (frames (frA limit fr n gl (lastA limit fr n gl))).length ≤ 1000000 := Nat.le_trans (Disk.total_le_of (f := fun e : File => e.bytes.length) (Disk.look_mem h1)) hS.dsk.2.used
            rw [fr_is, frames_bump, ← hat] at h2
            omega
          obtain ⟨N, hN⟩ : ∃ N, N = lastA limit fr n gl := ⟨_, rfl⟩
          obtain ⟨A, hA⟩ : ∃ A, A = atA limit fr n gl := ⟨_, rfl⟩
          obtain ⟨Z, hZ⟩ : ∃ Z, Z = size gl := ⟨_, rfl⟩
          obtain ⟨V, hV⟩ : ∃ V, V = w4.alloc (.cells #[.int .i64 (lastA limit fr n gl : Int), .int .i64 (atA limit fr n gl : Int), .int .i64 (size gl : Int)] 47) := ⟨_, rfl⟩
          obtain ⟨sb, hsb⟩ : ∃ sb, sb = w4.heap.size := ⟨_, rfl⟩
          rw [← hV] at hbx hx hm1 hm2 k1
          unfold spV
          rw [← hN, ← hA] at k1
          rw [← hN, ← hA, ← hZ, ← hsb] at hx
          rw [← hN] at q1 q2 q3
          rw [← hA] at hAz
          rw [← hZ] at hsz
          rw [← hN, ← hA, ← hZ] at hV ⊢
          have ew : IntKind.i64.wrap ((A : Int) + (Z : Int)) = (((A + Z : Nat)) : Int) := by rw [IntKind.wrap_i64]; omega
          have HST := Lib.hid (And.intro hK (And.intro hS (And.intro hL (And.intro hpl htot))))
          have HNA := Lib.hid (And.intro hN (And.intro hA hZ))
          have HX := Lib.hid hx
          have HM := Lib.hid (And.intro hm1 (And.intro hm2 (And.intro hbm hbx)))
          rw [← hA, ← hN] at hat
          have HQ := Lib.hid (And.intro q1 (And.intro q2 (And.intro q3 (And.intro hnk hat))))
          have HV := Lib.hid hV
          rw [hV] at k1 hm1
          clear hK hS hL hpl htot hN hA hZ hx hm2 hbm hbx hat hn1 hnk hV q1 q2 q3
          have hNs : N < 9223372036854775808 := by have := HQ.out; omega
          go_wp2_with (first | (at_mapUpdate; refine wpList_mapUpdate_own _ rfl _ _ _ 59 rfl 3 3 lawI Tryz.underlying59 _ mS k _ rfl hm1 (by unfold maxLen; omega) _ _ _ rfl rfl (keyI hNs) _ [] (inM_int _) ?_; intro w5 hm5) | fail)
          intro hg5
          rw [← HV.out] at hg5
          rw [← hsb]
          have hx5 := HX.out.but (But.of_grown hg5) (fun h => by injection h with h; have := HRO.out.m1.lt; have := HST.out.1.but.size; omega)
          have hm25 := Disk.ownsMap_but HM.out.2.1 (But.of_grown hg5) (fun h => by injection h with h; exact HRO.out.ne h.symm)
          have s0 := hx5.cell 0
          have k2 := look_nat hm25 HRO.out.t2 N (by omega)
          have hm5' : w5.ownsMap Tryz.prog 3 inM mS (k + 1) (D1.put (.int .i64 (N : Int)) (.lit (.int .i64 ((A + Z : Nat) : Int)))) := by
            have e0 : (((A + Z : Nat)) : Int) = (A : Int) + (Z : Int) := by omega
            rw [e0]
            exact hm5
          obtain ⟨M, hM⟩ : ∃ M, M = (fr N).length := ⟨_, rfl⟩
          rw [← hM] at k2
          have HM5 := Lib.hid (And.intro hm5' (And.intro hg5 hM))
          have hMz : M ≤ 1000000 := by have h1 := frames_many (fr N); have h2 := HQ.out.2.2.2.2; omega
          have ew2 : IntKind.i64.wrap ((M : Int) + 1) = (((M + 1 : Nat)) : Int) := by rw [IntKind.wrap_i64]; omega
          clear hm5 hm5' hg5 hx5 k1 hm1 ew hM hsb
          go_wp2_with (first | (at_mapUpdate; refine wpList_mapUpdate_own _ rfl _ _ _ 59 rfl 3 3 lawI Tryz.underlying59 _ mM k _ rfl hm25 (by unfold maxLen; omega) _ _ _ rfl rfl (keyI hNs) _ [] (inM_int _) ?_; intro w6 hm6) | fail)
          intro hg6
          have hb6 : But (fun q => q = mS ∨ q = mM) w4 w6 := ((But.of_new HM.out.2.2.2 (S := fun q => q = mS ∨ q = mM)).trans (But.of_grown HM5.out.2.1) (fun i _ h => by injection h with h; exact .inl h)).trans (But.of_grown hg6) (fun i _ h => by injection h with h; exact .inr h)
          have hm16 := Disk.ownsMap_but HM5.out.1 (But.of_grown hg6) (fun h => by injection h with h; exact HRO.out.ne h)
          have hR6 := HRO.out.step HOK.out (by omega) HST.out.1 HST.out.2.1 HST.out.2.2.1 HST.out.2.2.2.1 HST.out.2.2.2.2 hb6 hm16 hm6 (by rw [← HNA.out.1, ← HNA.out.2.1, ← HNA.out.2.2]) (by
            rw [← HNA.out.1, ← HM5.out.2.2]
            have e0 : (((M + 1 : Nat)) : Int) = (M : Int) + 1 := by omega
            rw [e0])
          have HR6 := Lib.hid hR6
          clear hm6 hg6 hb6 hm16 hR6 k2 hm25 s0 ew2
          go_wp2_with fail
          go_roundw
          case rel => exact ⟨k + 1, _, _, T1, F1, g1, c1, vz1, _, _, by omega, by go_num, HR6.out⟩
          case measure => simp [intOf]; omega
        · have cA := append_no false HRO.out.sys (cap := gc) HRl.out (by have := HSM.out; omega) hok
          rw [← HGN.out] at cA
          rw [show Disk.errV 1 = .iface 33 (.int .i64 1) from errV_bad (by decide)] at cA
          unfold spV at cA
          clear hok
          go_wp2_with fail
          refine cA.mono ?_
          clear cA hcell
          rintro e w4 ⟨rfl, hb4⟩
          have HR4 := Lib.hid (HRO.out.keep (hb4.alloc (by have := hb4.size; omega) (.cells #[.int .i64 0, .int .i64 0, .int .i64 0] 47)))
          clear hb4
          go_wp2_with fail
          go_roundw
          case rel => exact ⟨k + 1, _, _, T, F, g, c, vz, _, _, by omega, by go_num, HR4.out⟩
          case measure => simp [intOf]; omega
      · clear hcell
        go_wp2_with fail
        go_ret
        exact ⟨rfl, HRO.out.below⟩
    · have hkN : k = N0 := by omega
      subst hkN
      have hn1 := hR.n1
      have hnk := hR.nk
      have cS := segments_log hR.sys (by rw [List.length_range']; omega)
      have HRO := Lib.hid hR
      clear hR hlt hk
      go_wp2_with fail
      refine cS.mono ?_
      clear cS
      rintro e w4 ⟨v, rfl, ho4, hb4⟩
      rw [List.length_range'] at ho4
      obtain ⟨g4, c4, rfl⟩ : ∃ g4 c4, v = .slice (some ⟨g4, 0, none⟩) n c4 := by
        rcases ho4.2 with ⟨_, h2⟩ | ⟨gz, cz, _, h2, _⟩
        · omega
        · exact ⟨gz, cz, h2⟩
      have HC := Lib.hid (show ∀ i, i < n → w4.cell? ⟨g4, i, none⟩ = some (.int .i64 ((i : Int) + 1)) from fun i hi => by
        refine (ho4.cellAt i (by omega)).trans ?_
        rw [intCells_get (by rw [List.length_range']; exact hi), List.getElem_range']
        have e0 : (((1 + 1 * i : Nat)) : Int) = (i : Int) + 1 := by omega
        rw [e0])
      have HK := Lib.hid (HRO.out.keep hb4)
      clear ho4 hb4
      go_wp2_with fail
      go_loopw [20] (fun i wr2 => ∃ j : Nat, j ≤ n ∧ i = .int .i64 (j : Int) ∧ wr2 = w4) (fun i _ => n - (intOf i).toNat)
      case atStart => exact ⟨0, Nat.zero_le _, rfl, rfl⟩
      case round =>
        obtain ⟨j, hj, rfl, rfl⟩ := hrel
        by_cases hlt : j < n
        · have hcell := HC.out j hlt
          have ej : IntKind.i64.wrap ((j : Int) + 1) = (j : Int) + 1 := by rw [IntKind.wrap_i64]; omega
          have k1 := look_nat HK.out.m1 HK.out.t1 (j + 1) (by omega)
          have k2 := look_nat HK.out.m2 HK.out.t2 (j + 1) (by omega)
          have hok := HK.out.ok (j + 1)
          obtain ⟨X, hX⟩ : ∃ X, X = (frames (fr (j + 1))).length := ⟨_, rfl⟩
          obtain ⟨Y, hY⟩ : ∃ Y, Y = (fr (j + 1)).length := ⟨_, rfl⟩
          rw [← hX] at k1 hok
          rw [← hY] at k2 hok
          have e0 : (((j + 1 : Nat)) : Int) = (j : Int) + 1 := by omega
          rw [e0] at k1 k2
          clear hX hY
          by_cases hx : limit < (X : Int)
          · have tX : decide (limit < (X : Int)) = true := decide_eq_true hx
            have tY : decide ((1 : Int) < (Y : Int)) = false := decide_eq_false (by omega)
            have tY2 : decide (1 < Y) = false := decide_eq_false (by omega)
            clear hok hx
            go_wp2_with fail
            go_roundw
            case rel => exact ⟨j + 1, by omega, by go_num, trivial⟩
            case measure => simp [intOf]; omega
          · have tX : decide (limit < (X : Int)) = false := decide_eq_false hx
            clear hok hx
            go_wp2_with fail
            go_roundw
            case rel => exact ⟨j + 1, by omega, by go_num, trivial⟩
            case measure => simp [intOf]; omega
        · obtain ⟨S1, S2, o1, o2, hU, hpl2, htt, hln, hv⟩ := odd_math odd (by rw [HODD.out.2.2.2.1]; exact ho)
          have hjn : j = n := by omega
          subst hjn
          clear hlt hj
          go_wp2_with fail
          refine (dsk_fresh 10000 (by omega) _).mono ?_
          rintro e w5 ⟨p2, rfl, hD, hB5⟩
          have c6 := dsk_new hD ⟨#[109]⟩ (by decide)
          have c6 : Calls Tryz.prog 24 #[.pointer (some ⟨p2, 0, none⟩), .string ⟨#[109]⟩] w5 (After w5 p2 (grow (fun _ => False) wr w5) (0, S1)) := by rw [← o1]; exact c6
          have HB5 := Lib.hid (And.intro hB5 (HK.out.below.trans (hB5.mono HK.out.below.size)))
          have HO := Lib.hid (And.intro o2 (And.intro hU (And.intro hpl2 (And.intro htt (And.intro hln hv)))))
          clear hD hB5 o1 o2 hU hpl2 htt hln hv
          go_wp2_with fail
          refine c6.mono ?_
          rintro e w6 ⟨rfl, hN6⟩
          have hF6 : ∀ q, grow (grow (fun _ => False) wr w5) w5 w6 q → w.heap.size ≤ q := fun q hq => by
            have h1 := HK.out.below.size
            have h2 := HB5.out.1.size
            rcases hq with (h | h) | h
            · exact h.elim
            · omega
            · omega
          have hb6 : Below w.heap.size w w6 := HB5.out.2.trans (hN6.2.below HB5.out.2.size (fun q hq => hF6 q (.inl hq)))
          have c7 := dsk_add hN6.1 ⟨#[109]⟩ (by decide) oa ol oc odd (HODD.out.1.below hb6) HODD.out.2.1 (fun q hq h0 hf => by have h1 := HODD.out.2.2.2.2.1 q hq h0; have h2 := hF6 _ hf; omega) (by omega)
          have c7 : Calls Tryz.prog 25 #[.pointer (some ⟨p2, 0, none⟩), .string ⟨#[109]⟩, .slice oa ol oc] w6 (After w6 p2 (grow (grow (fun _ => False) wr w5) w5 w6) (0, S2)) := by rw [← HO.out.1]; exact c7
          have HB6 := Lib.hid (And.intro hb6 hF6)
          clear hN6 hb6 hF6 c6
          rw [errV_ok rfl]
          go_wp2_with fail
          refine c7.mono ?_
          rintro e w7 ⟨rfl, hN7⟩
          have hF7 : ∀ q, grow (grow (grow (fun _ => False) wr w5) w5 w6) w6 w7 q → w.heap.size ≤ q := fun q hq => by
            have h1 := HB6.out.1.size
            rcases hq with h | h
            · exact HB6.out.2 q h
            · omega
          have hb7 : Below w.heap.size w w7 := HB6.out.1.trans (hN7.2.below HB6.out.1.size (fun q hq => hF7 q (.inl hq)))
          have c8 := open_odd (limit := limit) hN7.1 HO.out.2.1 HO.out.2.2.1 HO.out.2.2.2.1 HO.out.2.2.2.2.1 HO.out.2.2.2.2.2 (by rw [HODD.out.2.2.2.1]; exact ho) HODD.out.2.2.1 (fun n W hW => (HODD.out.2.2.2.2.2 n).below ((hb7.trans (hW.below hb7.size hF7)))) hl1 (by omega)
          have HB7 := Lib.hid (And.intro hb7 hF7)
          clear hN7 hb7 hF7 c7
          rw [errV_ok rfl]
          go_wp2_with fail
          refine c8.mono ?_
          clear c8
          rintro e w8 ⟨rfl, hb8⟩
          unfold lost4
          have HB8 := Lib.hid (HB7.out.1.trans (hb8.below HB7.out.1.size HB7.out.2))
          have cC := Err.code_some 2 (by omega) (by omega) w8
          clear hb8
          go_wp2_with fail
          refine cC.mono ?_
          rintro e w' ⟨rfl, rfl⟩
          clear cC
          go_wp2_with fail
          go_ret
          exact ⟨rfl, HB8.out⟩
end Go.Proofs.YtkppliljlcihmaaGreatDoor.Seg

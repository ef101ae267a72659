/- LoadPlays: what any loads come to: each bucket's, their sum, and which buckets are heavy. -/
import Derived.Test.YtomeehecegehbaaLdPR
import Derived.Deep.CutRange
import Derived.IntWalk
namespace Go.Proofs.Ytomeehecegehbaa.Ld
open Go.Proofs.Ytomeehecegehbaa.Mem
open Go.ChangeShapes Go.WideShapes Go.ChangeAt Go.RowKit
set_option linter.unusedVariables false
set_option linter.unusedSimpArgs false
set_option maxRecDepth 100000 in
set_option maxHeartbeats 16000000 in
theorem plays_any {W : World} {a : Option Addr} {l : List Deed} {c : Nat} (hD : Deeds W a l) (hl : l.length ≤ 150) :
    Calls Try.prog 3 #[.slice a l.length c] W fun e w' => e = .returned (.bool true) ∧ But (fun _ => False) W w' := by
  have HU := Lib.hid (up_any W)
  have HN := Lib.hid ld_new
  have HD := Lib.hid hD
  obtain ⟨n, hn⟩ : ∃ n, n = l.length := ⟨_, rfl⟩
  rw [← hn] at hl ⊢
  have HNL := Lib.hid hn
  have h1 : ¬ (150 : Int) < (n : Int) := by omega
  obtain ⟨i0, hi0, hz⟩ := Option.map_eq_some_iff.1 pair_info
  simp only [Prod.mk.injEq] at hz
  have HI0 := Lib.hid (And.intro hi0 hz)
  clear hD hn hi0 hz
  go_enter Try.func3, Try.ntmps3
  go_wp2_with fail
  refine HU.out.mono ?_
  rintro e w1 ⟨rfl, hB⟩
  have HB := Lib.hid hB
  clear hB
  go_wp2_with fail
  refine (HN.out w1).mono ?_
  rintro e w2 ⟨p, mb, rfl, hA, hlw, hB⟩
  have hL := (show Live w1 w2 p mb 0 (fun _ => (0, 0)) from ⟨hA, hlw, hB⟩).more HB.out
  have HP0 := Lib.hid (show PR W w2 p mb 0 (fun _ => (0, 0)) (.slice none 0 0) [] from ⟨hL, ⟨rfl, .inl ⟨rfl, rfl⟩⟩⟩)
  clear hB hA hlw hL HB HU HN h1
  go_wp2_with fail
  go_loopw [5, 6] (fun v u wr => ∃ (i : Nat) (f : Int → Pr) (a1 : Option Addr) (c1 : Nat) (M : List Pair), i ≤ n ∧ u = .int .i64 (i : Int) ∧ v = .slice a1 M.length c1 ∧ M.length ≤ i ∧ Mir f M ∧ PR W wr p mb i f v M) (fun _ u _ => n - (intOf u).toNat)
  case atStart => exact ⟨0, _, none, 0, [], by omega, rfl, rfl, by simp, mir_new, HP0.out⟩
  case round =>
    obtain ⟨i, f, a1, c1, M, hi, rfl, rfl, hMi, hMir, hPR⟩ := hrel
    have HPR := Lib.hid hPR
    have HMIR := Lib.hid hMir
    by_cases hlt : i < n
    · have hil : i < l.length := by rw [← HNL.out]; exact hlt
      obtain ⟨ga, o, ha, hga, hcl⟩ := HD.out.at_ (by omega)
      subst ha
      have hrg := range_but (dcells_range hcl hil) hPR.live.but hga (fun h => h)
      have hok := HD.out.is_ _ (List.getElem_mem hil)
      obtain ⟨d, hd⟩ : ∃ d, d = l[i] := ⟨_, rfl⟩
      rw [← hd] at hrg hok
      have HRG := Lib.hid hrg
      have HOK := Lib.hid hok
      have HBK := Lib.hid (show Blk ((wr.alloc (.cells (dcells dzero).toArray 28)).setCells wr.heap.size 0 (dcells d)) wr.heap.size 28 (dcells d).toArray from blk_set0 (Blk.new _ _ _) (by rw [dcells_length, dcells_length]))
      have HP2 := Lib.hid (show PR W ((wr.alloc (.cells (dcells dzero).toArray 28)).setCells wr.heap.size 0 (dcells d)) p mb i f (.slice a1 M.length c1) M from hPR.new ((((But.refl (fun k => k = wr.heap.size) wr).alloc _).trans' (but_setCells _ _ _ _)).mono (fun j hj e => by omega)))
      obtain ⟨N, hN⟩ : ∃ N, N = M.length := ⟨_, rfl⟩
      have HNM := Lib.hid hN
      rw [← hN] at hMi HP2 ⊢
      clear hrg hok hd hcl hga hPR hMir hil hN
      go_wp2_with (first
        | (refine wpList_load_mid rfl 28 _ rfl ga (o + i * 4) rfl [.bool d.drop, .int .i64 d.b, .int .i64 d.x, .int .i64 d.y] _ HRG.out Try.underlying28 rfl deed_size ?_)
        | (refine wpList_store_mid rfl 28 _ _ rfl wr.heap.size 0 (dcells d).toArray rfl rfl (blk_there0 (Blk.new wr 28 (dcells dzero).toArray) (by rw [dcells_length]; simp [dcells_length])) (by simp only [List.size_toArray, dcells_length]; exact deed_size) (all_oneCell_toArray (dcells_one d)) ?_
           change wpList _ _ _ _ _ ((wr.alloc (.cells (dcells dzero).toArray 28)).setCells wr.heap.size 0 (dcells d))
           obtain ⟨xb, hxb⟩ : ∃ xb, xb = wr.heap.size := ⟨_, rfl⟩
           rw [← hxb] at HBK HP2 ⊢
           clear hxb
           generalize (wr.alloc (.cells (dcells dzero).toArray 28)).setCells xb 0 (dcells d) = W2 at HBK HP2 ⊢))
      go_loopw [8, 9] (fun s u wx => ∃ (k : Nat) (v : Int), k ≤ N ∧ u = .int .i64 (k : Int) ∧ s = .int .i64 v ∧ At2 M d.b k v ∧ PR W wx p mb i f (.slice a1 N c1) M ∧ Blk wx xb 28 (dcells d).toArray) (fun _ u _ => N - (intOf u).toNat)
      case atStart => exact ⟨0, -1, by omega, rfl, rfl, At2.start M d.b, HP2.out, HBK.out⟩
      case round =>
        obtain ⟨k, v, hk, rfl, rfl, hat, hPx, hBx⟩ := hrel
        have HAT := Lib.hid hat
        have HPX := Lib.hid hPx
        have HBX := Lib.hid hBx
        by_cases hkN : k < N
        · have hkM : k < M.length := by rw [← HNM.out]; exact hkN
          obtain ⟨g, rfl, _, _⟩ := own_some (by have := hPx.row; rw [← HNM.out] at this; exact this) (by omega)
          obtain ⟨c0, _, _⟩ := row_pair (by have := hPx.row; rw [← HNM.out] at this; exact this) hkM
          have x1 : wr.cell? ⟨xb, 1, none⟩ = some (.int .i64 d.b) := hBx.cell 1
          obtain ⟨y, hy⟩ : ∃ y, y = M[k].k := ⟨_, rfl⟩
          rw [← hy] at c0
          have HY := Lib.hid hy
          have hkNi : (k : Int) < (N : Int) := by omega
          clear hat hPx hBx hy
          by_cases hyd : y = d.b
          · have hye : (y == d.b) = true := by simpa using hyd
            have HA2 := Lib.hid (At2.hit hkM (HY.out ▸ hyd : M[k].k = d.b))
            clear HY HAT
            go_wp2_with fail
            go_quiet (fail)
            have HPn := Lib.hid (HPX.out.new ((But.refl (fun _ => False) wr).drewN nq))
            have HBn := Lib.hid (HBX.out.but ((But.refl (fun _ => False) wr).drewN nq) (fun h => h))
            clear c0 x1
            generalize wr.drewN nq = wq at HPn HBn ⊢
            go_wp2
            go_roundw
            case rel => exact ⟨k + 1, _, by omega, by go_num, rfl, HA2.out, HPn.out, HBn.out⟩
            case measure => (simp [intOf] <;> omega)
          · have hye : (y == d.b) = false := by simpa using hyd
            have HA2 := Lib.hid (HAT.out.miss hkM (HY.out ▸ hyd : M[k].k ≠ d.b))
            clear HY HAT
            go_wp2_with fail
            go_quiet (fail)
            have HPn := Lib.hid (HPX.out.new ((But.refl (fun _ => False) wr).drewN nq))
            have HBn := Lib.hid (HBX.out.but ((But.refl (fun _ => False) wr).drewN nq) (fun h => h))
            clear c0 x1
            generalize wr.drewN nq = wq at HPn HBn ⊢
            go_wp2
            go_roundw
            case rel => exact ⟨k + 1, _, by omega, by go_num, rfl, HA2.out, HPn.out, HBn.out⟩
            case measure => (simp [intOf] <;> omega)
        · obtain rfl : k = N := by omega
          clear hat hPx hBx
          go_upto_if 61 with fail
          go_cut [5, 8] from 35 to 136 (fun v u wy => ∃ (a2 : Option Addr) (c2 : Nat) (M2 : List Pair) (j : Nat), v = .slice a2 M2.length c2 ∧ u = .int .i64 (j : Int) ∧ (∃ h : j < M2.length, M2[j].k = d.b) ∧ M2.length ≤ i + 1 ∧ Mir f M2 ∧ PR W wy p mb i f v M2 ∧ Blk wy xb 28 (dcells d).toArray)
          case first =>
            as_aux_lemma =>
            rcases HAT.out with ⟨j, hj, hjk, hjb, rfl⟩ | ⟨rfl, hno⟩
            · have hneg : ¬ ((j : Int) < 0) := by omega
              go_wp2
              go_meet
              case rel => exact ⟨a1, c1, M, j, by rw [HNM.out], rfl, ⟨hj, hjb⟩, by have := HNM.out; omega, HMIR.out, HPX.out, HBX.out⟩
            · have HNO := Lib.hid hno
              have x1 : wr.cell? ⟨xb, 1, none⟩ = some (.int .i64 d.b) := HBX.out.cell 1
              have hrow := HPX.out.row
              obtain ⟨hi0, hz0, hz1, hz2⟩ := HI0.out
              have hsz := HPX.out.live.but.size
              have hN150 : k ≤ 150 := by omega
              rw [← HNM.out] at hrow
              have HROW := Lib.hid hrow
              clear hno hrow
              go_wp2_with (first
                | (refine wpList_append_onto rfl _ _ _ rfl W.heap.size 30 i0 _ 3 24 Try.underlying26 hi0 hz0 hz1 hz2 rfl (by omega) (.slice a1 k c1) k (pcl M) rfl (ownsRow_alloc HROW.out _) (.slice (some ⟨wr.heap.size, 0, none⟩) 1 1) 1 (pcells ⟨d.b, 0, 0⟩) rfl (sees_pair wr ⟨d.b, 0, 0⟩ _ _ _ rfl) (pcells_one _) (by unfold maxLen; omega) (by omega) (by simp; omega) ?_
                   intro v2 w2 ho2 hon2
                   have hb1 := (But.refl (fun _ => False) wr).alloc (.cells (pcells ⟨d.b, 0, 0⟩).toArray 30)
                   have hPA := PR.app (M := M) (x := ⟨d.b, 0, 0⟩) (HPX.out.new hb1) (by rw [← HNM.out]; exact ho2) hon2
                   obtain ⟨a2, c2, hv2⟩ := own_form ho2
                   subst hv2
                   have HPA := Lib.hid hPA
                   have HBA := Lib.hid ((HBX.out.but hb1 (fun h => h)).but hon2.but (fun e => own_blk_ne (ownsRow_alloc HROW.out (.cells (pcells ⟨d.b, 0, 0⟩).toArray 30)) (HBX.out.but hb1 (fun h => h)) (by decide) _ e.symm rfl))
                   have hwk : IntKind.i64.wrap (((k + 1 : Nat) : Int) - 1) = (k : Int) := by rw [IntKind.wrap_i64]; omega
                   clear hPA ho2 hon2 hb1 hi0 hz0 hz1 hz2 x1))
              go_meet
              case rel => exact ⟨a2, c2, M ++ [⟨d.b, 0, 0⟩], k, by simp [← HNM.out], by first | rfl | exact congrArg _ hwk | simp, ⟨by simp [← HNM.out], by simp [← HNM.out]⟩, by simp [← HNM.out]; omega, HMIR.out.add (fun x hx e => by
                obtain ⟨j, hj, rfl⟩ := List.mem_iff_getElem.1 hx
                exact HNO.out j hj (by rw [HNM.out]; exact hj) e), HPA.out, HBA.out⟩
          case rest =>
            obtain ⟨a2, c2, M2, j, rfl, rfl, ⟨hj, hjb⟩, hM2, hMir2, hP2, hB2⟩ := hcut
            have HJ := Lib.hid (show ∃ h : j < M2.length, M2[j].k = d.b from ⟨hj, hjb⟩)
            have HM2 := Lib.hid (And.intro hM2 hMir2)
            have HP3 := Lib.hid hP2
            have HB3 := Lib.hid hB2
            obtain ⟨g, rfl, _, _⟩ := own_some hP2.row (by omega)
            have x0 : wc.cell? ⟨xb, 0, none⟩ = some (.bool d.drop) := hB2.cell 0
            generalize d.drop = bd at x0
            obtain ⟨L, hL⟩ : ∃ L, L = M2.length := ⟨_, rfl⟩
            have HLL := Lib.hid hL
            rw [← hL] at HP3 ⊢
            have hjl : (j : Int) < (L : Int) := by omega
            clear hj hjb hM2 hMir2 hP2 hB2 HAT HPX HBX HP2 HBK HRG HMIR HPR HI0 hL
            go_upto_if 72 with fail
            go_cut [] from 35 to 136 (fun wy => ∃ (f2 : Int → Pr) (M3 : List Pair), M3.length = L ∧ (∃ h : j < M3.length, M3[j].k = d.b) ∧ Mir f2 M3 ∧ PR W wy p mb (i + 1) f2 (.slice (some ⟨g, 0, none⟩) L c2) M3 ∧ Blk wy xb 28 (dcells d).toArray)
            case first =>
              obtain ⟨hj, hjb⟩ := HJ.out
              cases bd
              case true =>
                have x1 : wc.cell? ⟨xb, 1, none⟩ = some (.int .i64 d.b) := HB3.out.cell 1
                have HD5 := Lib.hid (ld_drop HP3.out.live.at_ HOK.out.hb)
                go_wp2_with fail
                refine HD5.out.mono ?_
                rintro e w5 ⟨rfl, hA, hB⟩
                have HP5 := Lib.hid (HP3.out.turn (hA.more (Nat.le_succ i)) hB)
                have hne : xb ≠ mb := by
                  obtain ⟨m, D, hm, _⟩ := HP3.out.live.at_.map
                  rintro rfl
                  obtain ⟨es, clock, hb, _⟩ := hm
                  have h4 : wc.heap[xb]? = some (.cells (dcells d).toArray 28 (0, 0)) := HB3.out
                  rw [h4] at hb
                  cases hb
                have HB5 := Lib.hid (HB3.out.but hB hne)
                have x1 : w5.cell? ⟨xb, 1, none⟩ = some (.int .i64 d.b) := HB5.out.cell 1
                have HTH := Lib.hid (HP5.out.there HLL.out hj)
                have HP6 := Lib.hid (HP5.out.put HLL.out hj ⟨d.b, 0, 0⟩)
                have hgx : xb ≠ g := fun e => own_blk_ne HP5.out.row HB5.out (by decide) g rfl e.symm
                have HB6 := Lib.hid (HB5.out.but (but_setCells g (pcells ⟨d.b, 0, 0⟩) (j * 3) w5) hgx)
                clear hA hB hne hgx HD5
                go_wp2_with (first
                  | (refine wpList_store_mid rfl 30 _ _ rfl g (j * 3) (pcells ⟨d.b, 0, 0⟩).toArray rfl rfl (by simpa [pcells] using HTH.out) (by simp only [List.size_toArray, pcells_length]; exact pair_size) (all_oneCell_toArray (pcells_one _)) ?_
                     change wpList _ _ _ _ _ (w5.setCells g (j * 3) (pcells ⟨d.b, 0, 0⟩))
                     generalize w5.setCells g (j * 3) (pcells ⟨d.b, 0, 0⟩) = W6 at HP6 HB6 ⊢
                     clear x1 HTH HP5 HB5))
                go_meet
                case rel => exact ⟨_, M2.set j ⟨d.b, 0, 0⟩, by rw [List.length_set, HLL.out], ⟨by rw [List.length_set]; exact hj, by simp⟩, HM2.out.2.set hj hjb 0 0, HP6.out, HB6.out⟩
              case false =>
                as_aux_lemma =>
                have x1 : wc.cell? ⟨xb, 1, none⟩ = some (.int .i64 d.b) := HB3.out.cell 1
                have x2 : wc.cell? ⟨xb, 2, none⟩ = some (.int .i64 d.x) := HB3.out.cell 2
                have x3 : wc.cell? ⟨xb, 3, none⟩ = some (.int .i64 d.y) := HB3.out.cell 3
                have HD5 := Lib.hid (ld_add HP3.out.live.at_ (by omega) HOK.out.hb d.x d.y)
                have hval := HM2.out.2.val _ (List.getElem_mem hj)
                have hfew := HP3.out.live.at_.few d.b
                rw [hjb] at hval
                obtain ⟨y1, hy1⟩ : ∃ y1, y1 = M2[j].a := ⟨_, rfl⟩
                obtain ⟨y2, hy2⟩ : ∃ y2, y2 = M2[j].b := ⟨_, rfl⟩
                rw [← hy1, ← hy2] at hval
                rw [hval] at hfew
                have hfew' : y1 ≤ 1099511627776 ∧ y2 ≤ 1099511627776 := hfew
                have HY := Lib.hid (And.intro hy1 hy2)
                have q1l : part d.x ≤ 1099511627776 := Nat.min_le_right _ _
                have q2l : part d.y ≤ 1099511627776 := Nat.min_le_right _ _
                have hmo : more (f d.b) d.x d.y = (part ((y1 + part d.x : Nat) : Int), part ((y2 + part d.y : Nat) : Int)) := by
                  rw [hval]
                  unfold more part
                  simp only [Int.toNat_natCast]
                  congr 1 <;> omega
                have HT1 := Lib.hid (part_any d.x)
                have HT2 := Lib.hid (part_any d.y)
                have HT3 := Lib.hid (part_any ((y1 + part d.x : Nat) : Int))
                have HT4 := Lib.hid (part_any ((y2 + part d.y : Nat) : Int))
                obtain ⟨q1, hq1⟩ : ∃ q1, q1 = part d.x := ⟨_, rfl⟩
                obtain ⟨q2, hq2⟩ : ∃ q2, q2 = part d.y := ⟨_, rfl⟩
                rw [← hq1] at HT1 HT3 hmo q1l
                rw [← hq2] at HT2 HT4 hmo q2l
                have hw1 : IntKind.i64.wrap ((y1 : Int) + (q1 : Int)) = ((y1 + q1 : Nat) : Int) := by rw [IntKind.wrap_i64]; omega
                have hw2 : IntKind.i64.wrap ((y2 : Int) + (q2 : Int)) = ((y2 + q2 : Nat) : Int) := by rw [IntKind.wrap_i64]; omega
                obtain ⟨r1, hr1⟩ : ∃ r1, r1 = part ((y1 + q1 : Nat) : Int) := ⟨_, rfl⟩
                obtain ⟨r2, hr2⟩ : ∃ r2, r2 = part ((y2 + q2 : Nat) : Int) := ⟨_, rfl⟩
                rw [← hr1] at HT3 hmo
                rw [← hr2] at HT4 hmo
                rw [hmo] at HD5
                clear hval hfew hfew' hmo hq1 hq2 hr1 hr2 q1l q2l hy1 hy2
                go_wp2_with fail
                refine HD5.out.mono ?_
                rintro e w5 ⟨rfl, hA, hB⟩
                have hP5 := HP3.out.turn hA hB
                have hne : xb ≠ mb := by
                  obtain ⟨m, D, hm, _⟩ := HP3.out.live.at_.map
                  rintro rfl
                  obtain ⟨es, clock, hb, _⟩ := hm
                  have h4 : wc.heap[xb]? = some (.cells (dcells d).toArray 28 (0, 0)) := HB3.out
                  rw [h4] at hb
                  cases hb
                have hB5 := HB3.out.but hB hne
                have hP5 := hP5.new ((But.refl (fun _ => False) w5).drew)
                have hB5 := hB5.but ((But.refl (fun _ => False) w5).drew) (fun h => h)
                have c1' := (row_pair (by have := hP5.row; rw [← HLL.out] at this; exact this) hj).2.1
                rw [← HY.out.1] at c1'
                have HC := Lib.hid (show w5.drew.cell? ⟨xb, 2, none⟩ = some (.int .i64 d.x) ∧ w5.drew.cell? ⟨g, j * 3 + 1, none⟩ = some (.int .i64 (y1 : Int)) ∧ w5.drew.frozen? ⟨g, j * 3 + 1, none⟩ = false from ⟨hB5.cell 2, c1', row_frozen (by have := hP5.row; rw [← HLL.out] at this; exact this) _⟩)
                have hgx : xb ≠ g := fun e => own_blk_ne hP5.row hB5 (by decide) g rfl e.symm
                have hP6 := hP5.cell HLL.out (M' := M2.set j ⟨M2[j].k, r1, M2[j].b⟩) (j * 3 + 1) (.int .i64 (r1 : Int)) (List.length_set ..) (set_a hj r1)
                have hB6 := hB5.but ((But.refl (fun k => k = g) w5.drew).setCell (p := ⟨g, j * 3 + 1, none⟩) rfl (.int .i64 (r1 : Int))) hgx
                have HP6 := Lib.hid (show PR W ((w5.setCell ⟨g, j * 3 + 1, none⟩ (.int .i64 (r1 : Int))).drew) p mb (i + 1) _ _ _ from hP6)
                have HB6 := Lib.hid (show Blk ((w5.setCell ⟨g, j * 3 + 1, none⟩ (.int .i64 (r1 : Int))).drew) xb _ _ from hB6)
                have HGX := Lib.hid hgx
                clear hA hB hne HD5 hP5 hB5 c1' x1 x2 x3 x0 hgx hP6 hB6
                go_wp2_with fail
                refine Late.region_goes (fun V => V = w5.drew) (fun i => i == 14) (by kernel_rfl) ?_ (fun hH => ?_)
                · rfl
                refine Late.Goes.takeT (i := 0) (v := ?_) (by simp only [List.getElem?_toArray, List.getElem?_cons_succ, List.getElem?_cons_zero]; rfl) (by kernel_rfl) (by kernel_rfl) (by kernel_rfl) (by kernel_rfl) (by kernel_rfl) (by exact fun _ _ _ h => h) (Or.inl ⟨by rfl, ?_⟩) hH ?_
                rotate_left
                · (intro wy hSw; (try dsimp only at hSw); subst hSw; have d1 := HC.out.1; have d2 := HC.out.2.1; have hw := hw1; go_simp; try (with_reducible rfl))
                try simp only [Act.put, List.setIfInBounds_toArray, List.set_cons_zero, List.set_cons_succ]
                refine Late.Goes.takeT (i := 1) (v := ?_) (by simp only [List.getElem?_toArray, List.getElem?_cons_succ, List.getElem?_cons_zero]; rfl) (by kernel_rfl) (by kernel_rfl) (by kernel_rfl) (by kernel_rfl) (by kernel_rfl) (by exact fun _ _ _ h => h) (Or.inl ⟨by rfl, ?_⟩) hH ?_
                rotate_left
                · (intro wy hSw; (try dsimp only at hSw); subst hSw; have d1 := HC.out.1; have d2 := HC.out.2.1; have hw := hw1; go_simp; try (with_reducible rfl))
                try simp only [Act.put, List.setIfInBounds_toArray, List.set_cons_zero, List.set_cons_succ]
                refine Late.Goes.takeT (i := 2) (v := ?_) (by simp only [List.getElem?_toArray, List.getElem?_cons_succ, List.getElem?_cons_zero]; rfl) (by kernel_rfl) (by kernel_rfl) (by kernel_rfl) (by kernel_rfl) (by kernel_rfl) (by exact fun _ _ _ h => h) (Or.inl ⟨by rfl, ?_⟩) hH ?_
                rotate_left
                · (intro wy hSw; (try dsimp only at hSw); subst hSw; have d1 := HC.out.1; have d2 := HC.out.2.1; have hw := hw1; go_simp; try (with_reducible rfl))
                try simp only [Act.put, List.setIfInBounds_toArray, List.set_cons_zero, List.set_cons_succ]
                refine Late.Goes.takeT (i := 3) (v := ?_) (by simp only [List.getElem?_toArray, List.getElem?_cons_succ, List.getElem?_cons_zero]; rfl) (by kernel_rfl) (by kernel_rfl) (by kernel_rfl) (by kernel_rfl) (by kernel_rfl) (by exact fun _ _ _ h => h) (Or.inl ⟨by rfl, ?_⟩) hH ?_
                rotate_left
                · (intro wy hSw; (try dsimp only at hSw); subst hSw; have d1 := HC.out.1; have d2 := HC.out.2.1; have hw := hw1; go_simp; try (with_reducible rfl))
                try simp only [Act.put, List.setIfInBounds_toArray, List.set_cons_zero, List.set_cons_succ]
                refine Late.Goes.takeT (i := 4) (v := ?_) (by simp only [List.getElem?_toArray, List.getElem?_cons_succ, List.getElem?_cons_zero]; rfl) (by kernel_rfl) (by kernel_rfl) (by kernel_rfl) (by kernel_rfl) (by kernel_rfl) (by exact fun _ _ _ h => h) (Or.inl ⟨by rfl, ?_⟩) hH ?_
                rotate_left
                · (intro wy hSw; (try dsimp only at hSw); subst hSw; have d1 := HC.out.1; have d2 := HC.out.2.1; have hw := hw1; go_simp; try (with_reducible rfl))
                try simp only [Act.put, List.setIfInBounds_toArray, List.set_cons_zero, List.set_cons_succ]
                refine Late.Goes.takeT (i := 5) (v := ?_) (by simp only [List.getElem?_toArray, List.getElem?_cons_succ, List.getElem?_cons_zero]; rfl) (by kernel_rfl) (by kernel_rfl) (by kernel_rfl) (by kernel_rfl) (by kernel_rfl) (by exact fun _ _ _ h => h) (Or.inl ⟨by rfl, ?_⟩) hH ?_
                rotate_left
                · (intro wy hSw; (try dsimp only at hSw); subst hSw; have d1 := HC.out.1; have d2 := HC.out.2.1; have hw := hw1; go_simp; try (with_reducible rfl))
                try simp only [Act.put, List.setIfInBounds_toArray, List.set_cons_zero, List.set_cons_succ]
                refine Late.Goes.takeT (i := 6) (v := ?_) (by simp only [List.getElem?_toArray, List.getElem?_cons_succ, List.getElem?_cons_zero]; rfl) (by kernel_rfl) (by kernel_rfl) (by kernel_rfl) (by kernel_rfl) (by kernel_rfl) (by exact fun _ _ _ h => h) (Or.inl ⟨by rfl, ?_⟩) hH ?_
                rotate_left
                · (intro wy hSw; (try dsimp only at hSw); subst hSw; have d1 := HC.out.1; have d2 := HC.out.2.1; have hw := hw1; go_simp; try (with_reducible rfl))
                try simp only [Act.put, List.setIfInBounds_toArray, List.set_cons_zero, List.set_cons_succ]
                refine Late.Goes.takeT (i := 7) (v := ?_) (by simp only [List.getElem?_toArray, List.getElem?_cons_succ, List.getElem?_cons_zero]; rfl) (by kernel_rfl) (by kernel_rfl) (by kernel_rfl) (by kernel_rfl) (by kernel_rfl) (by exact fun _ _ _ h => h) (Or.inl ⟨by rfl, ?_⟩) hH ?_
                rotate_left
                · (intro wy hSw; (try dsimp only at hSw); subst hSw; have d1 := HC.out.1; have d2 := HC.out.2.1; have hw := hw1; go_simp; try (with_reducible rfl))
                try simp only [Act.put, List.setIfInBounds_toArray, List.set_cons_zero, List.set_cons_succ]
                refine Late.Goes.takeT (i := 8) (v := ?_) (by simp only [List.getElem?_toArray, List.getElem?_cons_succ, List.getElem?_cons_zero]; rfl) (by kernel_rfl) (by kernel_rfl) (by kernel_rfl) (by kernel_rfl) (by kernel_rfl) (by exact fun _ _ _ h => h) (Or.inl ⟨by rfl, ?_⟩) hH ?_
                rotate_left
                · (intro wy hSw; (try dsimp only at hSw); subst hSw; have d1 := HC.out.1; have d2 := HC.out.2.1; have hw := hw1; go_simp; try (with_reducible rfl))
                try simp only [Act.put, List.setIfInBounds_toArray, List.set_cons_zero, List.set_cons_succ]
                refine Late.Goes.one (i := 9) (by kernel_rfl) (by simp only [List.getElem?_toArray, List.getElem?_cons_succ, List.getElem?_cons_zero]; rfl) (fun K hK => ?_)
                clear hH
                go_simp
                go_at_call 9
                refine (HT1.out _).mono ?_
                rintro e w6 ⟨rfl, rfl⟩
                refine hK.out _ _ ?_ (fun hH => ?_)
                · exact fun _ => rfl
                clear hK K
                have hH := hH rfl
                try simp only [Act.put, List.setIfInBounds_toArray, List.set_cons_zero, List.set_cons_succ]
                refine Late.Goes.takeT (i := 10) (v := ?_) (by simp only [List.getElem?_toArray, List.getElem?_cons_succ, List.getElem?_cons_zero]; rfl) (by kernel_rfl) (by kernel_rfl) (by kernel_rfl) (by kernel_rfl) (by kernel_rfl) (by exact fun _ _ _ h => h) (Or.inl ⟨by rfl, ?_⟩) hH ?_
                rotate_left
                · (intro wy hSw; (try dsimp only at hSw); subst hSw; have d1 := HC.out.1; have d2 := HC.out.2.1; have hw := hw1; go_simp; try (with_reducible rfl))
                try simp only [Act.put, List.setIfInBounds_toArray, List.set_cons_zero, List.set_cons_succ]
                refine Late.Goes.one (i := 11) (by kernel_rfl) (by simp only [List.getElem?_toArray, List.getElem?_cons_succ, List.getElem?_cons_zero]; rfl) (fun K hK => ?_)
                clear hH
                go_simp
                go_at_call 9
                refine (HT3.out _).mono ?_
                rintro e w6 ⟨rfl, rfl⟩
                refine hK.out _ _ ?_ (fun hH => ?_)
                · exact fun _ => rfl
                clear hK K
                have hH := hH rfl
                try simp only [Act.put, List.setIfInBounds_toArray, List.set_cons_zero, List.set_cons_succ]
                refine Late.Goes.takeT (i := 12) (v := ?_) (by simp only [List.getElem?_toArray, List.getElem?_cons_succ, List.getElem?_cons_zero]; rfl) (by kernel_rfl) (by kernel_rfl) (by kernel_rfl) (by kernel_rfl) (by kernel_rfl) (by exact fun _ _ _ h => h) (Or.inl ⟨by rfl, ?_⟩) hH ?_
                rotate_left
                · (intro wy hSw; (try dsimp only at hSw); subst hSw; have d1 := HC.out.1; have d2 := HC.out.2.1; have hw := hw1; go_simp; try (with_reducible rfl))
                try simp only [Act.put, List.setIfInBounds_toArray, List.set_cons_zero, List.set_cons_succ]
                refine Late.Goes.takeT (i := 13) (v := ?_) (by simp only [List.getElem?_toArray, List.getElem?_cons_succ, List.getElem?_cons_zero]; rfl) (by kernel_rfl) (by kernel_rfl) (by kernel_rfl) (by kernel_rfl) (by kernel_rfl) (by exact fun _ _ _ h => h) (Or.inl ⟨by rfl, ?_⟩) hH ?_
                rotate_left
                · (intro wy hSw; (try dsimp only at hSw); subst hSw; have d1 := HC.out.1; have d2 := HC.out.2.1; have hw := hw1; go_simp; try (with_reducible rfl))
                try simp only [Act.put, List.setIfInBounds_toArray, List.set_cons_zero, List.set_cons_succ]
                refine Late.Goes.one (i := 14) (by kernel_rfl) (by simp only [List.getElem?_toArray, List.getElem?_cons_succ, List.getElem?_cons_zero]; rfl) (fun K hK => ?_)
                clear hH
                have d2 := HC.out.2.1
                have d3 := HC.out.2.2
                go_simp
                generalize (w5.setCell ⟨g, j * 3 + 1, none⟩ (.int .i64 (r1 : Int))).drew = w6 at HP6 HB6 ⊢
                clear d2 d3 HC
                refine hK.out _ _ ?_ (fun _ => ?_)
                · exact fun h => by cases h
                clear hK K
                try simp only [Act.put, List.setIfInBounds_toArray, List.set_cons_zero, List.set_cons_succ]
                refine Late.Goes.done (by kernel_rfl) ?_ _
                go_wp2_with fail
                have hP6 := HP6.out.new ((But.refl (fun _ => False) w6).drew)
                have hB6 := HB6.out.but ((But.refl (fun _ => False) w6).drew) (fun h => h)
                have hj6 : j < (M2.set j ⟨M2[j].k, r1, M2[j].b⟩).length := by rw [List.length_set]; exact hj
                have hl6 : L = (M2.set j ⟨M2[j].k, r1, M2[j].b⟩).length := by rw [List.length_set]; exact HLL.out
                have c2' := (row_pair (by have := hP6.row; rw [← hl6] at this; exact this) hj6).2.2
                rw [show (M2.set j ⟨M2[j].k, r1, M2[j].b⟩)[j].b = y2 from by rw [HY.out.2]; simp] at c2'
                have HC := Lib.hid (show w6.drew.cell? ⟨xb, 3, none⟩ = some (.int .i64 d.y) ∧ w6.drew.cell? ⟨g, j * 3 + 2, none⟩ = some (.int .i64 (y2 : Int)) ∧ w6.drew.frozen? ⟨g, j * 3 + 2, none⟩ = false from ⟨hB6.cell 3, c2', row_frozen (by have := hP6.row; rw [← hl6] at this; exact this) _⟩)
                have hP7 := hP6.cell hl6 (M' := (M2.set j ⟨M2[j].k, r1, M2[j].b⟩).set j ⟨(M2.set j ⟨M2[j].k, r1, M2[j].b⟩)[j].k, (M2.set j ⟨M2[j].k, r1, M2[j].b⟩)[j].a, r2⟩) (j * 3 + 2) (.int .i64 (r2 : Int)) (List.length_set ..) (set_b hj6 r2)
                rw [show (M2.set j ⟨M2[j].k, r1, M2[j].b⟩).set j ⟨(M2.set j ⟨M2[j].k, r1, M2[j].b⟩)[j].k, (M2.set j ⟨M2[j].k, r1, M2[j].b⟩)[j].a, r2⟩ = M2.set j ⟨d.b, r1, r2⟩ from by simp [List.set_set, hjb]] at hP7
                have HP7 := Lib.hid (show PR W ((w6.setCell ⟨g, j * 3 + 2, none⟩ (.int .i64 (r2 : Int))).drew) p mb (i + 1) _ _ _ from hP7)
                have HB7 := Lib.hid (show Blk ((w6.setCell ⟨g, j * 3 + 2, none⟩ (.int .i64 (r2 : Int))).drew) xb _ _ from hB6.but ((But.refl (fun k => k = g) w6.drew).setCell (p := ⟨g, j * 3 + 2, none⟩) rfl (.int .i64 (r2 : Int))) HGX.out)
                clear hP6 hB6 hj6 hl6 c2' hP7 HP6 HB6
                refine Late.region_goes (fun V => V = w6.drew) (fun i => i == 14) (by kernel_rfl) ?_ (fun hH => ?_)
                · rfl
                refine Late.Goes.takeT (i := 0) (v := ?_) (by simp only [List.getElem?_toArray, List.getElem?_cons_succ, List.getElem?_cons_zero]; rfl) (by kernel_rfl) (by kernel_rfl) (by kernel_rfl) (by kernel_rfl) (by kernel_rfl) (by exact fun _ _ _ h => h) (Or.inl ⟨by rfl, ?_⟩) hH ?_
                rotate_left
                · (intro wy hSw; (try dsimp only at hSw); subst hSw; have d1 := HC.out.1; have d2 := HC.out.2.1; have hw := hw2; go_simp; try (with_reducible rfl))
                try simp only [Act.put, List.setIfInBounds_toArray, List.set_cons_zero, List.set_cons_succ]
                refine Late.Goes.takeT (i := 1) (v := ?_) (by simp only [List.getElem?_toArray, List.getElem?_cons_succ, List.getElem?_cons_zero]; rfl) (by kernel_rfl) (by kernel_rfl) (by kernel_rfl) (by kernel_rfl) (by kernel_rfl) (by exact fun _ _ _ h => h) (Or.inl ⟨by rfl, ?_⟩) hH ?_
                rotate_left
                · (intro wy hSw; (try dsimp only at hSw); subst hSw; have d1 := HC.out.1; have d2 := HC.out.2.1; have hw := hw2; go_simp; try (with_reducible rfl))
                try simp only [Act.put, List.setIfInBounds_toArray, List.set_cons_zero, List.set_cons_succ]
                refine Late.Goes.takeT (i := 2) (v := ?_) (by simp only [List.getElem?_toArray, List.getElem?_cons_succ, List.getElem?_cons_zero]; rfl) (by kernel_rfl) (by kernel_rfl) (by kernel_rfl) (by kernel_rfl) (by kernel_rfl) (by exact fun _ _ _ h => h) (Or.inl ⟨by rfl, ?_⟩) hH ?_
                rotate_left
                · (intro wy hSw; (try dsimp only at hSw); subst hSw; have d1 := HC.out.1; have d2 := HC.out.2.1; have hw := hw2; go_simp; try (with_reducible rfl))
                try simp only [Act.put, List.setIfInBounds_toArray, List.set_cons_zero, List.set_cons_succ]
                refine Late.Goes.takeT (i := 3) (v := ?_) (by simp only [List.getElem?_toArray, List.getElem?_cons_succ, List.getElem?_cons_zero]; rfl) (by kernel_rfl) (by kernel_rfl) (by kernel_rfl) (by kernel_rfl) (by kernel_rfl) (by exact fun _ _ _ h => h) (Or.inl ⟨by rfl, ?_⟩) hH ?_
                rotate_left
                · (intro wy hSw; (try dsimp only at hSw); subst hSw; have d1 := HC.out.1; have d2 := HC.out.2.1; have hw := hw2; go_simp; try (with_reducible rfl))
                try simp only [Act.put, List.setIfInBounds_toArray, List.set_cons_zero, List.set_cons_succ]
                refine Late.Goes.takeT (i := 4) (v := ?_) (by simp only [List.getElem?_toArray, List.getElem?_cons_succ, List.getElem?_cons_zero]; rfl) (by kernel_rfl) (by kernel_rfl) (by kernel_rfl) (by kernel_rfl) (by kernel_rfl) (by exact fun _ _ _ h => h) (Or.inl ⟨by rfl, ?_⟩) hH ?_
                rotate_left
                · (intro wy hSw; (try dsimp only at hSw); subst hSw; have d1 := HC.out.1; have d2 := HC.out.2.1; have hw := hw2; go_simp; try (with_reducible rfl))
                try simp only [Act.put, List.setIfInBounds_toArray, List.set_cons_zero, List.set_cons_succ]
                refine Late.Goes.takeT (i := 5) (v := ?_) (by simp only [List.getElem?_toArray, List.getElem?_cons_succ, List.getElem?_cons_zero]; rfl) (by kernel_rfl) (by kernel_rfl) (by kernel_rfl) (by kernel_rfl) (by kernel_rfl) (by exact fun _ _ _ h => h) (Or.inl ⟨by rfl, ?_⟩) hH ?_
                rotate_left
                · (intro wy hSw; (try dsimp only at hSw); subst hSw; have d1 := HC.out.1; have d2 := HC.out.2.1; have hw := hw2; go_simp; try (with_reducible rfl))
                try simp only [Act.put, List.setIfInBounds_toArray, List.set_cons_zero, List.set_cons_succ]
                refine Late.Goes.takeT (i := 6) (v := ?_) (by simp only [List.getElem?_toArray, List.getElem?_cons_succ, List.getElem?_cons_zero]; rfl) (by kernel_rfl) (by kernel_rfl) (by kernel_rfl) (by kernel_rfl) (by kernel_rfl) (by exact fun _ _ _ h => h) (Or.inl ⟨by rfl, ?_⟩) hH ?_
                rotate_left
                · (intro wy hSw; (try dsimp only at hSw); subst hSw; have d1 := HC.out.1; have d2 := HC.out.2.1; have hw := hw2; go_simp; try (with_reducible rfl))
                try simp only [Act.put, List.setIfInBounds_toArray, List.set_cons_zero, List.set_cons_succ]
                refine Late.Goes.takeT (i := 7) (v := ?_) (by simp only [List.getElem?_toArray, List.getElem?_cons_succ, List.getElem?_cons_zero]; rfl) (by kernel_rfl) (by kernel_rfl) (by kernel_rfl) (by kernel_rfl) (by kernel_rfl) (by exact fun _ _ _ h => h) (Or.inl ⟨by rfl, ?_⟩) hH ?_
                rotate_left
                · (intro wy hSw; (try dsimp only at hSw); subst hSw; have d1 := HC.out.1; have d2 := HC.out.2.1; have hw := hw2; go_simp; try (with_reducible rfl))
                try simp only [Act.put, List.setIfInBounds_toArray, List.set_cons_zero, List.set_cons_succ]
                refine Late.Goes.takeT (i := 8) (v := ?_) (by simp only [List.getElem?_toArray, List.getElem?_cons_succ, List.getElem?_cons_zero]; rfl) (by kernel_rfl) (by kernel_rfl) (by kernel_rfl) (by kernel_rfl) (by kernel_rfl) (by exact fun _ _ _ h => h) (Or.inl ⟨by rfl, ?_⟩) hH ?_
                rotate_left
                · (intro wy hSw; (try dsimp only at hSw); subst hSw; have d1 := HC.out.1; have d2 := HC.out.2.1; have hw := hw2; go_simp; try (with_reducible rfl))
                try simp only [Act.put, List.setIfInBounds_toArray, List.set_cons_zero, List.set_cons_succ]
                refine Late.Goes.one (i := 9) (by kernel_rfl) (by simp only [List.getElem?_toArray, List.getElem?_cons_succ, List.getElem?_cons_zero]; rfl) (fun K hK => ?_)
                clear hH
                go_simp
                go_at_call 9
                refine (HT2.out _).mono ?_
                rintro e w7 ⟨rfl, rfl⟩
                refine hK.out _ _ ?_ (fun hH => ?_)
                · exact fun _ => rfl
                clear hK K
                have hH := hH rfl
                try simp only [Act.put, List.setIfInBounds_toArray, List.set_cons_zero, List.set_cons_succ]
                refine Late.Goes.takeT (i := 10) (v := ?_) (by simp only [List.getElem?_toArray, List.getElem?_cons_succ, List.getElem?_cons_zero]; rfl) (by kernel_rfl) (by kernel_rfl) (by kernel_rfl) (by kernel_rfl) (by kernel_rfl) (by exact fun _ _ _ h => h) (Or.inl ⟨by rfl, ?_⟩) hH ?_
                rotate_left
                · (intro wy hSw; (try dsimp only at hSw); subst hSw; have d1 := HC.out.1; have d2 := HC.out.2.1; have hw := hw2; go_simp; try (with_reducible rfl))
                try simp only [Act.put, List.setIfInBounds_toArray, List.set_cons_zero, List.set_cons_succ]
                refine Late.Goes.one (i := 11) (by kernel_rfl) (by simp only [List.getElem?_toArray, List.getElem?_cons_succ, List.getElem?_cons_zero]; rfl) (fun K hK => ?_)
                clear hH
                go_simp
                go_at_call 9
                refine (HT4.out _).mono ?_
                rintro e w7 ⟨rfl, rfl⟩
                refine hK.out _ _ ?_ (fun hH => ?_)
                · exact fun _ => rfl
                clear hK K
                have hH := hH rfl
                try simp only [Act.put, List.setIfInBounds_toArray, List.set_cons_zero, List.set_cons_succ]
                refine Late.Goes.takeT (i := 12) (v := ?_) (by simp only [List.getElem?_toArray, List.getElem?_cons_succ, List.getElem?_cons_zero]; rfl) (by kernel_rfl) (by kernel_rfl) (by kernel_rfl) (by kernel_rfl) (by kernel_rfl) (by exact fun _ _ _ h => h) (Or.inl ⟨by rfl, ?_⟩) hH ?_
                rotate_left
                · (intro wy hSw; (try dsimp only at hSw); subst hSw; have d1 := HC.out.1; have d2 := HC.out.2.1; have hw := hw2; go_simp; try (with_reducible rfl))
                try simp only [Act.put, List.setIfInBounds_toArray, List.set_cons_zero, List.set_cons_succ]
                refine Late.Goes.takeT (i := 13) (v := ?_) (by simp only [List.getElem?_toArray, List.getElem?_cons_succ, List.getElem?_cons_zero]; rfl) (by kernel_rfl) (by kernel_rfl) (by kernel_rfl) (by kernel_rfl) (by kernel_rfl) (by exact fun _ _ _ h => h) (Or.inl ⟨by rfl, ?_⟩) hH ?_
                rotate_left
                · (intro wy hSw; (try dsimp only at hSw); subst hSw; have d1 := HC.out.1; have d2 := HC.out.2.1; have hw := hw2; go_simp; try (with_reducible rfl))
                try simp only [Act.put, List.setIfInBounds_toArray, List.set_cons_zero, List.set_cons_succ]
                refine Late.Goes.one (i := 14) (by kernel_rfl) (by simp only [List.getElem?_toArray, List.getElem?_cons_succ, List.getElem?_cons_zero]; rfl) (fun K hK => ?_)
                clear hH
                have d2 := HC.out.2.1
                have d3 := HC.out.2.2
                go_simp
                generalize (w6.setCell ⟨g, j * 3 + 2, none⟩ (.int .i64 (r2 : Int))).drew = w7 at HP7 HB7 ⊢
                clear d2 d3 HC
                refine hK.out _ _ ?_ (fun _ => ?_)
                · exact fun h => by cases h
                clear hK K
                try simp only [Act.put, List.setIfInBounds_toArray, List.set_cons_zero, List.set_cons_succ]
                refine Late.Goes.done (by kernel_rfl) ?_ _
                go_wp2_with fail
                go_meet
                case rel => exact ⟨_, M2.set j ⟨d.b, r1, r2⟩, by rw [List.length_set, HLL.out], ⟨by rw [List.length_set]; exact hj, by simp⟩, HM2.out.2.set hj hjb r1 r2, HP7.out, HB7.out⟩
            case rest =>
              obtain ⟨f2, M3, hM3, ⟨hj, hjb⟩, hMir3, hP3, hB3⟩ := hcut
              have HM3 := Lib.hid (And.intro hM3 hMir3)
              have HP4 := Lib.hid hP3
              have HB4 := Lib.hid hB3
              have hPd := hP3.new ((But.refl (fun _ => False) wc).drew)
              have hBd := hB3.but ((But.refl (fun _ => False) wc).drew) (fun h => h)
              obtain ⟨c0, c1', c2'⟩ := row_pair (by have := hPd.row; rw [hM3] at this; exact this) hj
              have hval := hMir3.val _ (List.getElem_mem hj)
              rw [hjb] at hval
              obtain ⟨y1, hy1⟩ : ∃ y1, y1 = M3[j].a := ⟨_, rfl⟩
              obtain ⟨y2, hy2⟩ : ∃ y2, y2 = M3[j].b := ⟨_, rfl⟩
              rw [← hy1, ← hy2] at hval
              rw [← hy1] at c1'
              rw [← hy2] at c2'
              have hfew := hPd.live.at_.few d.b
              have hO0 := ld_of hPd.live.at_ HOK.out.hb
              rw [hval] at hfew hO0
              have hfew' : y1 ≤ 1099511627776 ∧ y2 ≤ 1099511627776 := hfew
              have HO := Lib.hid (show Calls Try.prog 10 #[.pointer (some ⟨p, 0, none⟩), .int .i64 d.b] wc.drew fun e w' => e = .returned (.complex .f64 (fl y1) (fl y2)) ∧ wc.drew = w' from hO0)
              have HC := Lib.hid (show wc.drew.cell? ⟨xb, 1, none⟩ = some (.int .i64 d.b) ∧ wc.drew.cell? ⟨g, j * 3 + 1, none⟩ = some (.int .i64 (y1 : Int)) ∧ wc.drew.cell? ⟨g, j * 3 + 2, none⟩ = some (.int .i64 (y2 : Int)) from ⟨hBd.cell 1, c1', c2'⟩)
              have HPD := Lib.hid hPd
              have f1 := conv_nat y1
              have f2' := conv_nat y2
              have o1 : (FloatKind.f64.format.order (fl y1) (fl y1) == some .eq) = true := by rw [order_eq (by omega) (by omega)]; exact decide_eq_true rfl
              have o2 : (FloatKind.f64.format.order (fl y2) (fl y2) == some .eq) = true := by rw [order_eq (by omega) (by omega)]; exact decide_eq_true rfl
              clear hM3 hj hjb hMir3 hP3 hB3 hPd hBd c0 c1' c2' hval hy1 hy2 hfew hfew' x0 hO0
              go_wp2_with fail
              refine Late.region_goes (fun V => V = wc.drew) (fun _ => false) (by kernel_rfl) ?_ (fun hH => ?_)
              · rfl
              refine Late.Goes.takeT (i := 0) (v := ?_) (by simp only [List.getElem?_toArray, List.getElem?_cons_succ, List.getElem?_cons_zero]; rfl) (by kernel_rfl) (by kernel_rfl) (by kernel_rfl) (by kernel_rfl) (by kernel_rfl) (by exact fun _ _ _ h => h) (Or.inl ⟨by rfl, ?_⟩) hH ?_
              rotate_left
              · (intro wy hSw; (try dsimp only at hSw); subst hSw; have x1 := HC.out.1; have c1 := HC.out.2.1; have c2 := HC.out.2.2; go_simp; try (with_reducible rfl))
              try simp only [Act.put, List.setIfInBounds_toArray, List.set_cons_zero, List.set_cons_succ]
              refine Late.Goes.takeT (i := 1) (v := ?_) (by simp only [List.getElem?_toArray, List.getElem?_cons_succ, List.getElem?_cons_zero]; rfl) (by kernel_rfl) (by kernel_rfl) (by kernel_rfl) (by kernel_rfl) (by kernel_rfl) (by exact fun _ _ _ h => h) (Or.inl ⟨by rfl, ?_⟩) hH ?_
              rotate_left
              · (intro wy hSw; (try dsimp only at hSw); subst hSw; have x1 := HC.out.1; have c1 := HC.out.2.1; have c2 := HC.out.2.2; go_simp; try (with_reducible rfl))
              try simp only [Act.put, List.setIfInBounds_toArray, List.set_cons_zero, List.set_cons_succ]
              refine Late.Goes.takeT (i := 2) (v := ?_) (by simp only [List.getElem?_toArray, List.getElem?_cons_succ, List.getElem?_cons_zero]; rfl) (by kernel_rfl) (by kernel_rfl) (by kernel_rfl) (by kernel_rfl) (by kernel_rfl) (by exact fun _ _ _ h => h) (Or.inl ⟨by rfl, ?_⟩) hH ?_
              rotate_left
              · (intro wy hSw; (try dsimp only at hSw); subst hSw; have x1 := HC.out.1; have c1 := HC.out.2.1; have c2 := HC.out.2.2; go_simp; try (with_reducible rfl))
              try simp only [Act.put, List.setIfInBounds_toArray, List.set_cons_zero, List.set_cons_succ]
              refine Late.Goes.takeT (i := 4) (v := ?_) (by simp only [List.getElem?_toArray, List.getElem?_cons_succ, List.getElem?_cons_zero]; rfl) (by kernel_rfl) (by kernel_rfl) (by kernel_rfl) (by kernel_rfl) (by kernel_rfl) (by exact fun _ _ _ h => h) (Or.inl ⟨by rfl, ?_⟩) hH ?_
              rotate_left
              · (intro wy hSw; (try dsimp only at hSw); subst hSw; have x1 := HC.out.1; have c1 := HC.out.2.1; have c2 := HC.out.2.2; go_simp; try (with_reducible rfl))
              try simp only [Act.put, List.setIfInBounds_toArray, List.set_cons_zero, List.set_cons_succ]
              refine Late.Goes.takeT (i := 5) (v := ?_) (by simp only [List.getElem?_toArray, List.getElem?_cons_succ, List.getElem?_cons_zero]; rfl) (by kernel_rfl) (by kernel_rfl) (by kernel_rfl) (by kernel_rfl) (by kernel_rfl) (by exact fun _ _ _ h => h) (Or.inl ⟨by rfl, ?_⟩) hH ?_
              rotate_left
              · (intro wy hSw; (try dsimp only at hSw); subst hSw; have x1 := HC.out.1; have c1 := HC.out.2.1; have c2 := HC.out.2.2; go_simp; try (with_reducible rfl))
              try simp only [Act.put, List.setIfInBounds_toArray, List.set_cons_zero, List.set_cons_succ]
              refine Late.Goes.takeT (i := 6) (v := ?_) (by simp only [List.getElem?_toArray, List.getElem?_cons_succ, List.getElem?_cons_zero]; rfl) (by kernel_rfl) (by kernel_rfl) (by kernel_rfl) (by kernel_rfl) (by kernel_rfl) (by exact fun _ _ _ h => h) (Or.inl ⟨by rfl, ?_⟩) hH ?_
              rotate_left
              · (intro wy hSw; (try dsimp only at hSw); subst hSw; have x1 := HC.out.1; have c1 := HC.out.2.1; have c2 := HC.out.2.2; go_simp; try (with_reducible rfl))
              try simp only [Act.put, List.setIfInBounds_toArray, List.set_cons_zero, List.set_cons_succ]
              refine Late.Goes.takeT (i := 7) (v := ?_) (by simp only [List.getElem?_toArray, List.getElem?_cons_succ, List.getElem?_cons_zero]; rfl) (by kernel_rfl) (by kernel_rfl) (by kernel_rfl) (by kernel_rfl) (by kernel_rfl) (by exact fun _ _ _ h => h) (Or.inl ⟨by rfl, ?_⟩) hH ?_
              rotate_left
              · (intro wy hSw; (try dsimp only at hSw); subst hSw; have x1 := HC.out.1; have c1 := HC.out.2.1; have c2 := HC.out.2.2; go_simp; try (with_reducible rfl))
              try simp only [Act.put, List.setIfInBounds_toArray, List.set_cons_zero, List.set_cons_succ]
              refine Late.Goes.takeT (i := 8) (v := ?_) (by simp only [List.getElem?_toArray, List.getElem?_cons_succ, List.getElem?_cons_zero]; rfl) (by kernel_rfl) (by kernel_rfl) (by kernel_rfl) (by kernel_rfl) (by kernel_rfl) (by exact fun _ _ _ h => h) (Or.inl ⟨by rfl, ?_⟩) hH ?_
              rotate_left
              · (intro wy hSw; (try dsimp only at hSw); subst hSw; have x1 := HC.out.1; have c1 := HC.out.2.1; have c2 := HC.out.2.2; go_simp; try (with_reducible rfl))
              try simp only [Act.put, List.setIfInBounds_toArray, List.set_cons_zero, List.set_cons_succ]
              refine Late.Goes.takeT (i := 9) (v := ?_) (by simp only [List.getElem?_toArray, List.getElem?_cons_succ, List.getElem?_cons_zero]; rfl) (by kernel_rfl) (by kernel_rfl) (by kernel_rfl) (by kernel_rfl) (by kernel_rfl) (by exact fun _ _ _ h => h) (Or.inl ⟨by rfl, ?_⟩) hH ?_
              rotate_left
              · (intro wy hSw; (try dsimp only at hSw); subst hSw; have x1 := HC.out.1; have c1 := HC.out.2.1; have c2 := HC.out.2.2; go_simp; try (with_reducible rfl))
              try simp only [Act.put, List.setIfInBounds_toArray, List.set_cons_zero, List.set_cons_succ]
              refine Late.Goes.takeT (i := 10) (v := ?_) (by simp only [List.getElem?_toArray, List.getElem?_cons_succ, List.getElem?_cons_zero]; rfl) (by kernel_rfl) (by kernel_rfl) (by kernel_rfl) (by kernel_rfl) (by kernel_rfl) (by exact fun _ _ _ h => h) (Or.inl ⟨by rfl, ?_⟩) hH ?_
              rotate_left
              · (intro wy hSw; (try dsimp only at hSw); subst hSw; have x1 := HC.out.1; have c1 := HC.out.2.1; have c2 := HC.out.2.2; go_simp; try (with_reducible rfl))
              try simp only [Act.put, List.setIfInBounds_toArray, List.set_cons_zero, List.set_cons_succ]
              refine Late.Goes.takeT (i := 11) (v := ?_) (by simp only [List.getElem?_toArray, List.getElem?_cons_succ, List.getElem?_cons_zero]; rfl) (by kernel_rfl) (by kernel_rfl) (by kernel_rfl) (by kernel_rfl) (by kernel_rfl) (by exact fun _ _ _ h => h) (Or.inl ⟨by rfl, ?_⟩) hH ?_
              rotate_left
              · (intro wy hSw; (try dsimp only at hSw); subst hSw; have x1 := HC.out.1; have c1 := HC.out.2.1; have c2 := HC.out.2.2; go_simp; try (with_reducible rfl))
              try simp only [Act.put, List.setIfInBounds_toArray, List.set_cons_zero, List.set_cons_succ]
              refine Late.Goes.takeT (i := 12) (v := ?_) (by simp only [List.getElem?_toArray, List.getElem?_cons_succ, List.getElem?_cons_zero]; rfl) (by kernel_rfl) (by kernel_rfl) (by kernel_rfl) (by kernel_rfl) (by kernel_rfl) (by exact fun _ _ _ h => h) (Or.inl ⟨by rfl, ?_⟩) hH ?_
              rotate_left
              · (intro wy hSw; (try dsimp only at hSw); subst hSw; have x1 := HC.out.1; have c1 := HC.out.2.1; have c2 := HC.out.2.2; go_simp; try (with_reducible rfl))
              try simp only [Act.put, List.setIfInBounds_toArray, List.set_cons_zero, List.set_cons_succ]
              refine Late.Goes.takeT (i := 13) (v := ?_) (by simp only [List.getElem?_toArray, List.getElem?_cons_succ, List.getElem?_cons_zero]; rfl) (by kernel_rfl) (by kernel_rfl) (by kernel_rfl) (by kernel_rfl) (by kernel_rfl) (by exact fun _ _ _ h => h) (Or.inl ⟨by rfl, ?_⟩) hH ?_
              rotate_left
              · (intro wy hSw; (try dsimp only at hSw); subst hSw; have x1 := HC.out.1; have c1 := HC.out.2.1; have c2 := HC.out.2.2; go_simp; try (with_reducible rfl))
              try simp only [Act.put, List.setIfInBounds_toArray, List.set_cons_zero, List.set_cons_succ]
              refine Late.Goes.takeT (i := 14) (v := ?_) (by simp only [List.getElem?_toArray, List.getElem?_cons_succ, List.getElem?_cons_zero]; rfl) (by kernel_rfl) (by kernel_rfl) (by kernel_rfl) (by kernel_rfl) (by kernel_rfl) (by exact fun _ _ _ h => h) (Or.inl ⟨by rfl, ?_⟩) hH ?_
              rotate_left
              · (intro wy hSw; (try dsimp only at hSw); subst hSw; have x1 := HC.out.1; have c1 := HC.out.2.1; have c2 := HC.out.2.2; go_simp; try (with_reducible rfl))
              try simp only [Act.put, List.setIfInBounds_toArray, List.set_cons_zero, List.set_cons_succ]
              refine Late.Goes.takeT (i := 15) (v := ?_) (by simp only [List.getElem?_toArray, List.getElem?_cons_succ, List.getElem?_cons_zero]; rfl) (by kernel_rfl) (by kernel_rfl) (by kernel_rfl) (by kernel_rfl) (by kernel_rfl) (by exact fun _ _ _ h => h) (Or.inl ⟨by rfl, ?_⟩) hH ?_
              rotate_left
              · (intro wy hSw; (try dsimp only at hSw); subst hSw; have x1 := HC.out.1; have c1 := HC.out.2.1; have c2 := HC.out.2.2; go_simp; try (with_reducible rfl))
              try simp only [Act.put, List.setIfInBounds_toArray, List.set_cons_zero, List.set_cons_succ]
              refine Late.Goes.takeT (i := 16) (v := ?_) (by simp only [List.getElem?_toArray, List.getElem?_cons_succ, List.getElem?_cons_zero]; rfl) (by kernel_rfl) (by kernel_rfl) (by kernel_rfl) (by kernel_rfl) (by kernel_rfl) (by exact fun _ _ _ h => h) (Or.inl ⟨by rfl, ?_⟩) hH ?_
              rotate_left
              · (intro wy hSw; (try dsimp only at hSw); subst hSw; have x1 := HC.out.1; have c1 := HC.out.2.1; have c2 := HC.out.2.2; go_simp; try (with_reducible rfl))
              try simp only [Act.put, List.setIfInBounds_toArray, List.set_cons_zero, List.set_cons_succ]
              refine Late.Goes.one (i := 3) (by kernel_rfl) (by simp only [List.getElem?_toArray, List.getElem?_cons_succ, List.getElem?_cons_zero]; rfl) (fun K hK => ?_)
              clear hH
              go_simp
              go_at_call 10
              refine HO.out.mono ?_
              rintro e w5 ⟨rfl, rfl⟩
              refine hK.out _ _ ?_ (fun hH => ?_)
              · exact fun _ => rfl
              clear hK K
              have hH := hH rfl
              try simp only [Act.put, List.setIfInBounds_toArray, List.set_cons_zero, List.set_cons_succ]
              refine Late.Goes.takeT (i := 17) (v := ?_) (by simp only [List.getElem?_toArray, List.getElem?_cons_succ, List.getElem?_cons_zero]; rfl) (by kernel_rfl) (by kernel_rfl) (by kernel_rfl) (by kernel_rfl) (by kernel_rfl) (by exact fun _ _ _ h => h) (Or.inl ⟨by rfl, ?_⟩) hH ?_
              rotate_left
              · (intro wy hSw; (try dsimp only at hSw); subst hSw; have x1 := HC.out.1; have c1 := HC.out.2.1; have c2 := HC.out.2.2; go_simp; try (with_reducible rfl))
              try simp only [Act.put, List.setIfInBounds_toArray, List.set_cons_zero, List.set_cons_succ]
              refine Late.Goes.done (by kernel_rfl) ?_ _
              go_wp2_with fail
              go_roundw
              case rel => exact ⟨i + 1, f2, _, c2, M3, by omega, by go_num, by rw [HM3.out.1], by rw [HM3.out.1, HLL.out]; exact HM2.out.1, HM3.out.2, HPD.out⟩
              case measure => (simp [intOf] <;> omega)
    · obtain rfl : i = n := by omega
      clear hMir hPR
      obtain ⟨N, hN⟩ : ∃ N, N = M.length := ⟨_, rfl⟩
      have HNM := Lib.hid hN
      rw [← hN] at hMi HPR ⊢
      have hlim : ∀ x ∈ M, x.a ≤ 1099511627776 ∧ x.b ≤ 1099511627776 := fun x hx => by
        have := HPR.out.live.at_.few x.k
        rw [HMIR.out.val x hx] at this
        exact this
      have HLIM := Lib.hid hlim
      clear hN hlim
      go_wp2_with fail
      go_loopw [10, 11, 12, 13] (fun s t u v wx => ∃ k : Nat, k ≤ N ∧ s = .int .i64 ((ma (M.take k) : Nat) : Int) ∧ t = .int .i64 ((mb_ (M.take k) : Nat) : Int) ∧ u = .int .i64 ((mc (M.take k) : Nat) : Int) ∧ v = .int .i64 (k : Int) ∧ PR W wx p mb i f (.slice a1 N c1) M) (fun _ _ _ v _ => N - (intOf v).toNat)
      case atStart => exact ⟨0, by omega, rfl, rfl, rfl, rfl, HPR.out⟩
      case round =>
        obtain ⟨k, hk, rfl, rfl, rfl, rfl, hPx⟩ := hrel
        have HPX := Lib.hid hPx
        by_cases hkN : k < N
        · as_aux_lemma =>
          have hkM : k < M.length := by rw [← HNM.out]; exact hkN
          obtain ⟨g, rfl, _, _⟩ := own_some (by have := hPx.row; rw [← HNM.out] at this; exact this) (by omega)
          have hcs := row_pair (by have := hPx.row; rw [← HNM.out] at this; exact this) hkM
          have c1' := hcs.2.1
          have c2' := hcs.2.2
          obtain ⟨y1, hy1⟩ : ∃ y1, y1 = M[k].a := ⟨_, rfl⟩
          obtain ⟨y2, hy2⟩ : ∃ y2, y2 = M[k].b := ⟨_, rfl⟩
          have hl := HLIM.out _ (List.getElem_mem hkM)
          rw [← hy1, ← hy2] at hl
          rw [← hy1] at c1'
          rw [← hy2] at c2'
          have ha := ma_le (M := M.take k) (fun x hx => HLIM.out x (List.mem_of_mem_take hx))
          have hc := mc_le (M.take k)
          have hlen : (M.take k).length ≤ 150 := by rw [List.length_take]; omega
          have hn1 : M.take (k + 1) = M.take k ++ [M[k]] := (List.take_append_getElem hkM).symm
          have HN1 := Lib.hid (show ma (M.take (k + 1)) = ma (M.take k) + y1 ∧ mb_ (M.take (k + 1)) = mb_ (M.take k) + y2 ∧ mc (M.take (k + 1)) = mc (M.take k) + if 0 < y1 + y2 then 1 else 0 from by rw [hn1, ma_snoc, mb_snoc, mc_snoc, hy1, hy2]; exact ⟨rfl, rfl, rfl⟩)
          generalize ma (M.take k) = A at ha HN1 ⊢
          generalize mb_ (M.take k) = B at ha HN1 ⊢
          generalize mc (M.take k) = C at hc HN1 ⊢
          have hwA : IntKind.i64.wrap ((A : Int) + (y1 : Int)) = ((A + y1 : Nat) : Int) := by rw [IntKind.wrap_i64]; omega
          have hwB : IntKind.i64.wrap ((B : Int) + (y2 : Int)) = ((B + y2 : Nat) : Int) := by rw [IntKind.wrap_i64]; omega
          have hwS : IntKind.i64.wrap ((y1 : Int) + (y2 : Int)) = ((y1 + y2 : Nat) : Int) := by rw [IntKind.wrap_i64]; omega
          have hwC : IntKind.i64.wrap ((C : Int) + 1) = ((C + 1 : Nat) : Int) := by rw [IntKind.wrap_i64]; omega
          have hkNi : (k : Int) < (N : Int) := by omega
          clear hPx hcs hy1 hy2 hl ha hc hlen hn1 hkM
          obtain ⟨z, hz⟩ : ∃ z, z = y1 + y2 := ⟨_, rfl⟩
          rw [← hz] at hwS HN1
          clear hz
          by_cases hz0 : 0 < z
          · have hz1 : (0 : Int) < (z : Int) := by omega
            rw [if_pos hz0] at HN1
            go_wp2_with fail
            go_quiet (fail)
            have HPn := Lib.hid (HPX.out.new ((But.refl (fun _ => False) wr).drewN nq))
            clear c1' c2'
            generalize wr.drewN nq = wq at HPn ⊢
            go_wp2
            go_roundw
            case rel => exact ⟨k + 1, by omega, by rw [HN1.out.1]; first | rfl | exact congrArg _ hwA, by rw [HN1.out.2.1]; first | rfl | exact congrArg _ hwB, by rw [HN1.out.2.2]; first | rfl | exact congrArg _ hwC, by go_num, HPn.out⟩
            case measure => (simp [intOf] <;> omega)
          · have hz1 : ¬ ((0 : Int) < (z : Int)) := by omega
            rw [if_neg hz0] at HN1
            go_wp2_with fail
            go_quiet (fail)
            have HPn := Lib.hid (HPX.out.new ((But.refl (fun _ => False) wr).drewN nq))
            clear c1' c2'
            generalize wr.drewN nq = wq at HPn ⊢
            go_wp2
            go_roundw
            case rel => exact ⟨k + 1, by omega, by rw [HN1.out.1]; first | rfl | exact congrArg _ hwA, by rw [HN1.out.2.1]; first | rfl | exact congrArg _ hwB, by rw [HN1.out.2.2]; rfl, by go_num, HPn.out⟩
            case measure => (simp [intOf] <;> omega)
        · obtain rfl : k = N := by omega
          have hP0 := hPx
          have hsM : M.take k = M := List.take_of_length_le (by rw [← HNM.out]; exact Nat.le_refl _)
          rw [hsM]
          have HH := Lib.hid (ld_heavy hPx.live.at_ (by omega))
          have ha := ma_le HLIM.out
          have hc := mc_le M
          rw [← HNM.out] at ha hc
          have HMS := Lib.hid (fun (ss : List Int) (h : Ks f ss) => HMIR.out.sums h)
          obtain ⟨A, hA⟩ : ∃ A, A = ma M := ⟨_, rfl⟩
          obtain ⟨B, hB⟩ : ∃ B, B = mb_ M := ⟨_, rfl⟩
          obtain ⟨m, hm⟩ : ∃ m, m = mc M := ⟨_, rfl⟩
          rw [← hA, ← hB] at ha
          rw [← hm] at hc
          have HABM := Lib.hid (And.intro hA (And.intro hB hm))
          rw [← hA, ← hB, ← hm]
          have f1 := conv_nat A
          have f2' := conv_nat B
          have o1 : (FloatKind.f64.format.order (fl A) (fl A) == some .eq) = true := by rw [order_eq (by omega) (by omega)]; exact decide_eq_true rfl
          have o2 : (FloatKind.f64.format.order (fl B) (fl B) == some .eq) = true := by rw [order_eq (by omega) (by omega)]; exact decide_eq_true rfl
          have hm150 : m ≤ 150 := by omega
          clear hP0 hsM hPx ha hc hA hB hm
          go_wp2_with fail
          refine HH.out.mono ?_
          rintro e w5 ⟨v, hs, rfl, hks, hfall, _, _, hint, hB⟩
          have hP5 := HPX.out.new hB
          obtain ⟨va, vc, rfl, hcell⟩ := hint.at_
          have hlen : hs.length = m := by rw [(HMS.out _ hks).2.2]; exact HABM.out.2.2.symm
          have HS := Lib.hid (ld_sum hP5.live.at_ (by omega))
          have HKS := Lib.hid (And.intro hks hfall)
          subst hlen
          have HCELL := Lib.hid hcell
          have HP5 := Lib.hid hP5
          clear hks hfall hint hB hP5 hcell HH
          go_wp2_with fail
          refine HS.out.mono ?_
          rintro e w6 ⟨⟨ss, hks, _, rfl⟩, hB⟩
          rw [(HMS.out _ hks).1, (HMS.out _ hks).2.1, ← HABM.out.1, ← HABM.out.2.1]
          have HP6 := Lib.hid (HP5.out.new hB)
          have HC6 := Lib.hid (show ∀ i2, (h : i2 < hs.length) → ∃ g, va = some ⟨g, 0, none⟩ ∧ g < w6.heap.size ∧ w6.cell? ⟨g, i2, none⟩ = some (.int .i64 hs[i2]) from fun i2 h => by
            obtain ⟨g, e1, e2, e3⟩ := HCELL.out i2 h
            exact ⟨g, e1, Nat.lt_of_lt_of_le e2 hB.size, (hB.cell (p := ⟨g, i2, none⟩) e2 (fun h => h)).trans e3⟩)
          have HBK := Lib.hid (show Blk (w6.alloc (.cells #[.int .i64 0, .int .i64 0, .int .i64 0] 30)) w6.heap.size 30 (pcells pzero).toArray from Blk.new _ _ _)
          have hbw := ((But.refl (fun k => k = w6.heap.size) w6).alloc (.cells #[.int .i64 0, .int .i64 0, .int .i64 0] 30))
          have HBW := Lib.hid hbw
          have HP7 := Lib.hid (HP6.out.new (hbw.mono (fun j hj e => by omega)))
          clear hks hB hbw HS HP5 HCELL
          go_wp2_with fail
          obtain ⟨q, hq⟩ : ∃ q, q = w6.heap.size := ⟨_, rfl⟩
          have HQ := Lib.hid hq
          rw [← hq] at HBK HBW ⊢
          clear hq
          generalize w6.alloc (.cells #[.int .i64 0, .int .i64 0, .int .i64 0] 30) = w7 at HBK HP7 HBW ⊢
          go_loopw [16] (fun u wx => ∃ (i2 : Nat) (L : Pair), i2 ≤ hs.length ∧ u = .int .i64 (i2 : Int) ∧ Blk wx q 30 (pcells L).toArray ∧ (∀ h : i2 - 1 < hs.length, 0 < i2 → L.k = hs[i2 - 1] ∧ f L.k = (L.a, L.b)) ∧ (L.a ≤ 1099511627776 ∧ L.b ≤ 1099511627776) ∧ PR W wx p mb i f (.slice a1 k c1) M ∧ But (fun j => j = q) w6 wx) (fun u _ => hs.length - (intOf u).toNat)
          case atStart => exact ⟨0, pzero, by omega, rfl, HBK.out, fun _ h => by omega, ⟨by simp [pzero], by simp [pzero]⟩, HP7.out, HBW.out⟩
          case round =>
            obtain ⟨i2, L, hi2, rfl, hBq, hL, hLl, hPx, hbx⟩ := hrel
            have HL := Lib.hid (And.intro hL hLl)
            have HPX := Lib.hid hPx
            have HBQ := Lib.hid hBq
            have HBX := Lib.hid hbx
            clear hL hLl
            by_cases hi2m : i2 < hs.length
            · obtain ⟨hg, rfl, hhg, hhc⟩ := HC6.out i2 hi2m
              have hhq : hg ≠ q := by have := HQ.out; omega
              obtain ⟨s, hs2⟩ : ∃ s, s = hs[i2] := ⟨_, rfl⟩
              have HHC := Lib.hid (show ∀ wx, But (fun j => j = q) w6 wx → wx.cell? ⟨hg, i2, none⟩ = some (.int .i64 s) from fun wx hb => by rw [hs2]; exact (hb.cell (p := ⟨hg, i2, none⟩) hhg hhq).trans hhc)
              have HSS := Lib.hid hs2
              have hi2i : (i2 : Int) < (hs.length : Int) := by omega
              have hfs : f s ≠ (0, 0) := by rw [hs2]; exact (HKS.out.1.2 _).1 (List.getElem_mem hi2m)
              have HFS := Lib.hid hfs
              clear hPx hBq hbx hhc hs2 hfs
              go_wp2_with fail
              go_loopw [17, 18] (fun u r wx => ∃ (t : Nat) (v : Int), t ≤ k ∧ r = .int .i64 (t : Int) ∧ u = .int .i64 v ∧ At2 M s t v ∧ PR W wx p mb i f (.slice a1 k c1) M ∧ Blk wx q 30 (pcells L).toArray ∧ But (fun j => j = q) w6 wx) (fun _ r _ => k - (intOf r).toNat)
              case atStart => exact ⟨0, -1, by omega, rfl, rfl, At2.start M s, HPX.out, HBQ.out, HBX.out⟩
              case round =>
                obtain ⟨t, v, htk, rfl, rfl, hat, hPx, hBq, hbx⟩ := hrel
                have HAT := Lib.hid hat
                have HPX := Lib.hid hPx
                have HBQ := Lib.hid hBq
                have HBX := Lib.hid hbx
                by_cases htN : t < k
                · as_aux_lemma =>
                  have hkM : t < M.length := by rw [← HNM.out]; exact htN
                  obtain ⟨g, rfl, _, _⟩ := own_some (by have := hPx.row; rw [← HNM.out] at this; exact this) (by omega)
                  have c0 := (row_pair (by have := hPx.row; rw [← HNM.out] at this; exact this) hkM).1
                  have h0 := HHC.out _ hbx
                  obtain ⟨y, hy⟩ : ∃ y, y = M[t].k := ⟨_, rfl⟩
                  rw [← hy] at c0
                  have HY := Lib.hid hy
                  have hkNi : (t : Int) < (k : Int) := by omega
                  clear hat hPx hBq hbx hy
                  by_cases hyd : y = s
                  · have hye : (y == s) = true := by simpa using hyd
                    have HA2 := Lib.hid (At2.hit hkM (HY.out ▸ hyd : M[t].k = s))
                    clear HY HAT
                    go_wp2_with fail
                    go_quiet (fail)
                    have HPn := Lib.hid (HPX.out.new ((But.refl (fun _ => False) wr).drewN nq))
                    have HBn := Lib.hid (HBQ.out.but ((But.refl (fun _ => False) wr).drewN nq) (fun h => h))
                    have HWn := Lib.hid (HBX.out.drewN nq)
                    clear c0 h0
                    generalize wr.drewN nq = wq at HPn HBn HWn ⊢
                    go_wp2
                    go_roundw
                    case rel => exact ⟨t + 1, _, by omega, by go_num, rfl, HA2.out, HPn.out, HBn.out, HWn.out⟩
                    case measure => (simp [intOf] <;> omega)
                  · have hye : (y == s) = false := by simpa using hyd
                    have HA2 := Lib.hid (HAT.out.miss hkM (HY.out ▸ hyd : M[t].k ≠ s))
                    clear HY HAT
                    go_wp2_with fail
                    go_quiet (fail)
                    have HPn := Lib.hid (HPX.out.new ((But.refl (fun _ => False) wr).drewN nq))
                    have HBn := Lib.hid (HBQ.out.but ((But.refl (fun _ => False) wr).drewN nq) (fun h => h))
                    have HWn := Lib.hid (HBX.out.drewN nq)
                    clear c0 h0
                    generalize wr.drewN nq = wq at HPn HBn HWn ⊢
                    go_wp2
                    go_roundw
                    case rel => exact ⟨t + 1, _, by omega, by go_num, rfl, HA2.out, HPn.out, HBn.out, HWn.out⟩
                    case measure => (simp [intOf] <;> omega)
                · obtain rfl : t = k := by omega
                  obtain ⟨j, hj, hjb, rfl⟩ : ∃ j, ∃ h : j < M.length, M[j].k = s ∧ v = (j : Int) := by
                    rcases hat with ⟨j, hj, _, hjb, hv⟩ | ⟨_, hno⟩
                    · exact ⟨j, hj, hjb, hv⟩
                    · obtain ⟨x, hx, hxk⟩ := HMIR.out.at_ HFS.out
                      obtain ⟨j, hj, rfl⟩ := List.mem_iff_getElem.1 hx
                      exact absurd hxk (hno j hj (by rw [HNM.out]; exact hj))
                  obtain ⟨g, rfl, _, _⟩ := own_some (by have := hPx.row; rw [← HNM.out] at this; exact this) (by have := HNM.out; omega)
                  have hcs := row_pair (by have := hPx.row; rw [← HNM.out] at this; exact this) hj
                  obtain ⟨y, hy⟩ : ∃ y, y = M[j] := ⟨_, rfl⟩
                  rw [← hy] at hcs hjb
                  have hym : f s = (y.a, y.b) := by rw [← hjb, hy]; exact HMIR.out.val _ (List.getElem_mem hj)
                  have hyl : y.a ≤ 1099511627776 ∧ y.b ≤ 1099511627776 := by rw [hy]; exact HLIM.out _ (List.getElem_mem hj)
                  have hz : 0 < y.a + y.b := by
                    refine Classical.byContradiction fun hno => HFS.out ?_
                    rw [hym, show y.a = 0 by omega, show y.b = 0 by omega]
                  have hord : 0 < i2 → y.a + y.b < L.a + L.b ∨ y.a + y.b = L.a + L.b ∧ L.k < s := by
                    intro h0
                    obtain ⟨hLk, hLf⟩ := HL.out.1 (by omega) h0
                    have hp := List.pairwise_iff_getElem.1 HKS.out.2 (i2 - 1) i2 (by omega) hi2m (by omega)
                    have hn := List.pairwise_iff_getElem.1 HKS.out.1.1 (i2 - 1) i2 (by omega) hi2m (by omega)
                    rw [← HSS.out, ← hLk, cf_neg] at hp
                    rw [← HSS.out, ← hLk] at hn
                    unfold tot at hp
                    rw [hym, hLf] at hp
                    have hp' : ¬ (L.a + L.b < y.a + y.b ∨ y.a + y.b = L.a + L.b ∧ s < L.k) := hp
                    have hn' : L.k ≠ s := hn
                    omega
                  have HORD := Lib.hid hord
                  have HYY := Lib.hid (And.intro hym (And.intro hjb hyl))
                  have c0 : wr.cell? ⟨g, j * 3, none⟩ = some (.int .i64 y.k) := hcs.1
                  have c1' : wr.cell? ⟨g, j * 3 + 1, none⟩ = some (.int .i64 (y.a : Int)) := hcs.2.1
                  have c2' : wr.cell? ⟨g, j * 3 + 2, none⟩ = some (.int .i64 (y.b : Int)) := hcs.2.2
                  have l0 : wr.cell? ⟨q, 0, none⟩ = some (.int .i64 L.k) := hBq.cell 0
                  have l1 : wr.cell? ⟨q, 1, none⟩ = some (.int .i64 (L.a : Int)) := hBq.cell 1
                  have l2 : wr.cell? ⟨q, 2, none⟩ = some (.int .i64 (L.b : Int)) := hBq.cell 2
                  have hh := HHC.out _ hbx
                  have hLl := HL.out.2
                  have HOFF := Lib.hid (show g ≠ q ∧ p ≠ q ∧ mb ≠ q ∧ W.heap.size ≤ q from by
                    obtain ⟨g', e, _, hl'⟩ := own_some (by have := HP6.out.row; rw [← HNM.out] at this; exact this) (show 0 < t by have := HNM.out; omega)
                    injection e with e
                    injection e with e
                    subst e
                    have h1 := HP6.out.live.at_.lt
                    have h2 := HP6.out.live.but.size
                    have h3 := HQ.out
                    exact ⟨by omega, by omega, by omega, by omega⟩)
                  have hjt : (j : Int) < (t : Int) := by have := HNM.out; omega
                  have hjn : ¬ ((j : Int) < 0) := by omega
                  obtain ⟨P, hP⟩ : ∃ P, P = L.a + L.b := ⟨_, rfl⟩
                  obtain ⟨Z, hZ⟩ : ∃ Z, Z = y.a + y.b := ⟨_, rfl⟩
                  have hwP : IntKind.i64.wrap ((L.a : Int) + (L.b : Int)) = ((P : Nat) : Int) := by rw [IntKind.wrap_i64]; omega
                  have hwZ : IntKind.i64.wrap ((y.a : Int) + (y.b : Int)) = ((Z : Nat) : Int) := by rw [IntKind.wrap_i64]; omega
                  rw [← hP, ← hZ] at hord
                  rw [← hZ] at hz
                  have hz0 : ((Z : Int) == 0) = false := beq_eq_false_iff_ne.2 (by omega)
                  clear hP hZ hat hPx hBq hbx hcs hy hym hyl hLl HORD HFS hjb hj
                  have HRG := Lib.hid (show wr.rangeAt g (j * 3) (pcells y) from fun n u hu => by
                    rcases n with _ | _ | _ | n
                    · simp [pcells] at hu; subst hu; exact c0
                    · simp [pcells] at hu; subst hu; exact c1'
                    · simp [pcells] at hu; subst hu; exact c2'
                    · simp [pcells] at hu)
                  have HTH := Lib.hid (show wr.there q 0 3 from by simpa [pcells] using blk_there0 HBQ.out (pcells_length L))
                  by_cases h0 : 0 < i2
                  · have h0i : (0 : Int) < (i2 : Int) := by omega
                    rcases hord h0 with hlt | ⟨heq, hlk⟩
                    · have t1 : ¬ ((P : Int) < (Z : Int)) := by omega
                      have t1n : ¬ (P < Z) := by omega
                      have t2 : ((P : Int) == (Z : Int)) = false := beq_eq_false_iff_ne.2 (by omega)
                      have t2n : (P == Z) = false := beq_eq_false_iff_ne.2 (by omega)
                      have t2e : ¬ (P = Z) := by omega
                      clear hord
                      go_wp2_with fail
                      go_quiet (fail)
                      have HPn := Lib.hid (HPX.out.new ((But.refl (fun _ => False) wr).drewN nq))
                      have HBn := Lib.hid (HBQ.out.but ((But.refl (fun _ => False) wr).drewN nq) (fun h => h))
                      have HWn := Lib.hid (HBX.out.drewN nq)
                      have HRn := Lib.hid (show (wr.drewN nq).rangeAt g (j * 3) (pcells y) from HRG.out)
                      clear c0 c1' c2' l0 l1 l2 hh HRG HTH HPX HBQ HBX
                      generalize wr.drewN nq = wq at HPn HBn HWn HRn ⊢
                      have l0 : wq.cell? ⟨q, 0, none⟩ = some (.int .i64 L.k) := HBn.out.cell 0
                      have hh := HHC.out _ HWn.out
                      go_wp2_with fail
                      go_quiet (fail)
                      have HPm := HPn.out.new ((But.refl (fun _ => False) wq).drewN nq)
                      have HBm := HBn.out.but ((But.refl (fun _ => False) wq).drewN nq) (fun h => h)
                      have HWm := HWn.out.drewN nq
                      have HRm := Lib.hid (show (wq.drewN nq).rangeAt g (j * 3) (pcells y) from HRn.out)
                      clear l0 hh HRn HPn HBn HWn
                      generalize wq.drewN nq = wz at HPm HBm HWm HRm ⊢
                      have HTH := Lib.hid (show wz.there q 0 3 from by simpa [pcells] using blk_there0 HBm (pcells_length L))
                      have HBK := Lib.hid (show Blk (wz.setCells q 0 (pcells y)) q 30 (pcells y).toArray from blk_set0 HBm rfl)
                      have hbs := but_setCells q (pcells y) 0 wz
                      have HPf := Lib.hid (HPm.off hbs HOFF.out.2.1 HOFF.out.2.2.1 (fun j hj => by
                        have : g = j := by simpa [Value.ownBlock] using hj
                        rw [← this]; exact HOFF.out.1) HOFF.out.2.2.2)
                      have HWf := Lib.hid (HWm.trans' hbs)
                      clear hbs HPm HBm HWm
                      go_wp2_with (first
                        | (refine wpList_load_mid rfl 30 _ rfl g (j * 3) rfl [.int .i64 y.k, .int .i64 (y.a : Int), .int .i64 (y.b : Int)] _ HRm.out Try.underlying30 rfl pair_size ?_)
                        | (refine wpList_store_mid rfl 30 _ _ rfl q 0 (pcells y).toArray rfl rfl (by simpa [pcells] using HTH.out) (by simp only [List.size_toArray, pcells_length]; exact pair_size) (all_oneCell_toArray (pcells_one y)) ?_
                           change wpList _ _ _ _ _ (wz.setCells q 0 (pcells y))
                           generalize wz.setCells q 0 (pcells y) = wn at HBK HPf HWf ⊢))
                      go_roundw
                      case rel => exact ⟨i2 + 1, y, by omega, by go_num, HBK.out, fun _ _ => ⟨by rw [HYY.out.2.1, HSS.out]; simp, by rw [HYY.out.2.1]; exact HYY.out.1⟩, HYY.out.2.2, HPf.out, HWf.out⟩
                      case measure => (simp [intOf] <;> omega)
                    · obtain rfl : Z = P := heq
                      have t1 : ¬ ((Z : Int) < (Z : Int)) := by omega
                      have t1n : ¬ (Z < Z) := by omega
                      have t2 : ((Z : Int) == (Z : Int)) = true := by simp
                      have t3 : ¬ (s ≤ L.k) := by omega
                      clear hord
                      go_wp2_with fail
                      go_quiet (fail)
                      have HPn := Lib.hid (HPX.out.new ((But.refl (fun _ => False) wr).drewN nq))
                      have HBn := Lib.hid (HBQ.out.but ((But.refl (fun _ => False) wr).drewN nq) (fun h => h))
                      have HWn := Lib.hid (HBX.out.drewN nq)
                      have HRn := Lib.hid (show (wr.drewN nq).rangeAt g (j * 3) (pcells y) from HRG.out)
                      clear c0 c1' c2' l0 l1 l2 hh HRG HTH HPX HBQ HBX
                      generalize wr.drewN nq = wq at HPn HBn HWn HRn ⊢
                      have l0 : wq.cell? ⟨q, 0, none⟩ = some (.int .i64 L.k) := HBn.out.cell 0
                      have hh := HHC.out _ HWn.out
                      go_wp2_with fail
                      go_quiet (fail)
                      have HPm := HPn.out.new ((But.refl (fun _ => False) wq).drewN nq)
                      have HBm := HBn.out.but ((But.refl (fun _ => False) wq).drewN nq) (fun h => h)
                      have HWm := HWn.out.drewN nq
                      have HRm := Lib.hid (show (wq.drewN nq).rangeAt g (j * 3) (pcells y) from HRn.out)
                      clear l0 hh HRn HPn HBn HWn
                      generalize wq.drewN nq = wz at HPm HBm HWm HRm ⊢
                      have HTH := Lib.hid (show wz.there q 0 3 from by simpa [pcells] using blk_there0 HBm (pcells_length L))
                      have HBK := Lib.hid (show Blk (wz.setCells q 0 (pcells y)) q 30 (pcells y).toArray from blk_set0 HBm rfl)
                      have hbs := but_setCells q (pcells y) 0 wz
                      have HPf := Lib.hid (HPm.off hbs HOFF.out.2.1 HOFF.out.2.2.1 (fun j hj => by
                        have : g = j := by simpa [Value.ownBlock] using hj
                        rw [← this]; exact HOFF.out.1) HOFF.out.2.2.2)
                      have HWf := Lib.hid (HWm.trans' hbs)
                      clear hbs HPm HBm HWm
                      go_wp2_with (first
                        | (refine wpList_load_mid rfl 30 _ rfl g (j * 3) rfl [.int .i64 y.k, .int .i64 (y.a : Int), .int .i64 (y.b : Int)] _ HRm.out Try.underlying30 rfl pair_size ?_)
                        | (refine wpList_store_mid rfl 30 _ _ rfl q 0 (pcells y).toArray rfl rfl (by simpa [pcells] using HTH.out) (by simp only [List.size_toArray, pcells_length]; exact pair_size) (all_oneCell_toArray (pcells_one y)) ?_
                           change wpList _ _ _ _ _ (wz.setCells q 0 (pcells y))
                           generalize wz.setCells q 0 (pcells y) = wn at HBK HPf HWf ⊢))
                      go_roundw
                      case rel => exact ⟨i2 + 1, y, by omega, by go_num, HBK.out, fun _ _ => ⟨by rw [HYY.out.2.1, HSS.out]; simp, by rw [HYY.out.2.1]; exact HYY.out.1⟩, HYY.out.2.2, HPf.out, HWf.out⟩
                      case measure => (simp [intOf] <;> omega)
                  · have h0i : ¬ ((0 : Int) < (i2 : Int)) := by omega
                    clear hord
                    go_wp2_with fail
                    go_quiet (fail)
                    have HPn := Lib.hid (HPX.out.new ((But.refl (fun _ => False) wr).drewN nq))
                    have HBn := Lib.hid (HBQ.out.but ((But.refl (fun _ => False) wr).drewN nq) (fun h => h))
                    have HWn := Lib.hid (HBX.out.drewN nq)
                    have HRn := Lib.hid (show (wr.drewN nq).rangeAt g (j * 3) (pcells y) from HRG.out)
                    clear c0 c1' c2' l0 l1 l2 hh HRG HTH HPX HBQ HBX
                    generalize wr.drewN nq = wq at HPn HBn HWn HRn ⊢
                    have l0 : wq.cell? ⟨q, 0, none⟩ = some (.int .i64 L.k) := HBn.out.cell 0
                    have hh := HHC.out _ HWn.out
                    go_wp2_with fail
                    go_quiet (fail)
                    have HPm := HPn.out.new ((But.refl (fun _ => False) wq).drewN nq)
                    have HBm := HBn.out.but ((But.refl (fun _ => False) wq).drewN nq) (fun h => h)
                    have HWm := HWn.out.drewN nq
                    have HRm := Lib.hid (show (wq.drewN nq).rangeAt g (j * 3) (pcells y) from HRn.out)
                    clear l0 hh HRn HPn HBn HWn
                    generalize wq.drewN nq = wz at HPm HBm HWm HRm ⊢
                    have HTH := Lib.hid (show wz.there q 0 3 from by simpa [pcells] using blk_there0 HBm (pcells_length L))
                    have HBK := Lib.hid (show Blk (wz.setCells q 0 (pcells y)) q 30 (pcells y).toArray from blk_set0 HBm rfl)
                    have hbs := but_setCells q (pcells y) 0 wz
                    have HPf := Lib.hid (HPm.off hbs HOFF.out.2.1 HOFF.out.2.2.1 (fun j hj => by
                      have : g = j := by simpa [Value.ownBlock] using hj
                      rw [← this]; exact HOFF.out.1) HOFF.out.2.2.2)
                    have HWf := Lib.hid (HWm.trans' hbs)
                    clear hbs HPm HBm HWm
                    go_wp2_with (first
                      | (refine wpList_load_mid rfl 30 _ rfl g (j * 3) rfl [.int .i64 y.k, .int .i64 (y.a : Int), .int .i64 (y.b : Int)] _ HRm.out Try.underlying30 rfl pair_size ?_)
                      | (refine wpList_store_mid rfl 30 _ _ rfl q 0 (pcells y).toArray rfl rfl (by simpa [pcells] using HTH.out) (by simp only [List.size_toArray, pcells_length]; exact pair_size) (all_oneCell_toArray (pcells_one y)) ?_
                         change wpList _ _ _ _ _ (wz.setCells q 0 (pcells y))
                         generalize wz.setCells q 0 (pcells y) = wn at HBK HPf HWf ⊢))
                    go_roundw
                    case rel => exact ⟨i2 + 1, y, by omega, by go_num, HBK.out, fun _ _ => ⟨by rw [HYY.out.2.1, HSS.out]; simp, by rw [HYY.out.2.1]; exact HYY.out.1⟩, HYY.out.2.2, HPf.out, HWf.out⟩
                    case measure => (simp [intOf] <;> omega)
            · have hi2i : ¬ ((i2 : Int) < (hs.length : Int)) := by omega
              clear hPx hBq hbx
              go_wp2_with fail
              go_ret
              exact ⟨rfl, HPX.out.live.but⟩
end Go.Proofs.Ytomeehecegehbaa.Ld

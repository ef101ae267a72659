/- KeydirKeeps: what was put last is told, till it is deleted. -/
import Derived.Test.YtabclecfamkanaaDoorKeyKR
namespace Go.Proofs.YtabclecfamkanaaDoor.Key
open Go.Proofs.YtabclecfamkanaaDoor.Mem Go.Proofs.YtabclecfamkanaaDoor.Fnv
open Go.ChangeShapes Go.WideShapes Go.ChangeAt Go.RowKit
set_option linter.unusedVariables false
set_option linter.unusedSimpArgs false
theorem dcells_range {w : World} {g o i : Nat} {l : List Deed} (h : ∀ i (h : i < l.length), ∀ j u, (dcells l[i])[j]? = some u → w.cell? ⟨g, o + i * 8 + j, none⟩ = some u) (hi : i < l.length) : w.rangeAt g (o + i * 8) (dcells l[i]) := fun j v hv => h i hi j v hv
theorem range_but {F : Nat → Prop} {w w' : World} {g o : Nat} {vs : List Value} (h : w.rangeAt g o vs) (hb : But F w w') (hg : g < w.heap.size) (hF : ¬ F g) : w'.rangeAt g o vs := fun j v hv => by
  rw [hb.cell (p := ⟨g, o + j, none⟩) hg hF]; exact h j v hv
theorem box_deed {w : World} {b : Nat} {t : TypeId} {x : Deed} (h : Blk w b t (dcells x).toArray) : w.rangeAt b 1 (ecells x.e) := blk_range0 (A := [.bool x.d]) h
set_option maxRecDepth 100000 in
set_option maxHeartbeats 4000000 in
theorem keeps_any (W : World) (a : Option Addr) (l : List Deed) (c : Nat) (hD : Deeds W a l) (hl : l.length ≤ 300) (hc : Can W) :
    Calls Tryd.prog 4 #[.slice a l.length c] W fun e w' => e = .returned (.bool true) ∧ But (fun _ => False) W w' := by
  have HU := Lib.hid (up_any hc)
  have HC := Lib.hid hc
  have HDD := Lib.hid hD
  obtain ⟨n, hn⟩ : ∃ n, n = l.length := ⟨_, rfl⟩
  have HN := Lib.hid hn
  rw [← hn] at hl ⊢
  clear hc hD hn
  go_enter Tryd.func4, Tryd.ntmps4
  go_wp2_with fail
  refine HU.out.mono ?_
  rintro e w1 ⟨rfl, hB1⟩
  have HNW := Lib.hid (knew_any w1)
  have HB1 := Lib.hid hB1
  clear hB1 HU
  go_wp2_with fail
  refine HNW.out.mono ?_
  rintro e w2 ⟨rfl, hA, hB⟩
  have hb2 := HB1.out.trans hB (fun j hj h => h)
  have hb3 := hb2.alloc (.map #[] 0)
  have hm2 := World.ownsMap_made w2 Tryd.prog 9 entElem
  have hsz := HB1.out.size
  have hsz2 := hb2.size
  have HKR := Lib.hid (show KR W l (w1.heap.size + 1) w2.heap.size 0 (w2.alloc (.map #[] 0)) w1.heap.size (List.replicate 8 none) (.map []) from
    { tab := hA.but ((But.refl (fun _ => False) w2).alloc _) (fun h => h) (fun h => h), map := hm2, tells := tells_new, but := hb3, lows := ⟨by omega, by omega, by omega⟩, keys := fun j hj h => by omega })
  obtain ⟨p, hp⟩ : ∃ p, p = w1.heap.size + 1 := ⟨_, rfl⟩
  obtain ⟨mb, hmb⟩ : ∃ mb, mb = w2.heap.size := ⟨_, rfl⟩
  rw [← hp, ← hmb] at HKR
  rw [← hp]
  have HMB := Lib.hid hmb
  have hmm := @run_makeMap Tryd.prog
  clear hA hB hb2 hb3 hm2 hsz hsz2 hp HNW hmb
  go_wp2_with fail
  clear hmm
  rw [← HMB.out]
  change Code.wp _ _ _ _ (w2.alloc (.map #[] 0))
  generalize w2.alloc (.map #[] 0) = w3 at HKR ⊢
  clear HMB HB1
  go_loopw [6] (fun x wr => ∃ (k g : Nat) (T : Tab) (D : DataW Ent), k ≤ n ∧ x = .int .i64 (k : Int) ∧ KR W l p mb k wr g T D) (fun x _ => n - (intOf x).toNat)
  case atStart => exact ⟨0, _, _, _, by omega, rfl, HKR.out⟩
  case round =>
    obtain ⟨k, g, T, D, hk, rfl, hK⟩ := hrel
    have hnn := HN.out
    by_cases hlt : k < n
    · have hkl : k < l.length := by omega
      obtain ⟨ga, o, ha, hga, hcl⟩ := HDD.out.at_ (by omega)
      subst ha
      have hrg := range_but (dcells_range hcl hkl) hK.but hga (fun h => h)
      obtain ⟨x, hx⟩ : ∃ x, x = l[k] := ⟨_, rfl⟩
      rw [← hx] at hrg
      have HX := Lib.hid hx
      have HRG := Lib.hid hrg
      have HBK := Lib.hid (show Blk ((wr.alloc (.cells (dcells dzero).toArray 34)).setCells wr.heap.size 0 (dcells x)) wr.heap.size 34 (dcells x).toArray from blk_set0 (Blk.new _ _ _) (by rw [dcells_length, dcells_length]))
      have HK2 := Lib.hid (hK.step_but (((But.refl (fun k => k = wr.heap.size) wr).alloc (.cells (dcells dzero).toArray 34)).trans' (but_setCells wr.heap.size (dcells x) 0 _)) (fun j hj e => by omega))
      clear hK hrg hx hcl hga hnn
      by_cases hks : 100 < x.e.key.size
      · have hki : (100 : Int) < (x.e.key.size : Int) := by omega
        have HC1 := Lib.hid (HBK.out.cell 1)
        go_wp2_with (first
          | (refine wpList_load_mid rfl 34 _ rfl ga (o + k * 8) rfl [.bool x.d, .string x.e.key, .int .i64 x.e.seg, .int .i64 x.e.at_, .int .i64 x.e.len, .int .u64 (x.e.ver : Int), .int .u64 (x.e.exp : Int), .int .i64 x.e.size] _ HRG.out Tryd.underlying34 rfl deed_size ?_)
          | (refine wpList_store_mid rfl 34 _ _ rfl wr.heap.size 0 (dcells x).toArray rfl rfl (blk_there0 (Blk.new wr 34 (dcells dzero).toArray) (by rw [dcells_length]; simp [dcells_length])) (by simp only [List.size_toArray, dcells_length]; exact deed_size) (all_oneCell_toArray (dcells_one x)) ?_
             change wpList _ _ _ _ _ ((wr.alloc (.cells (dcells dzero).toArray 34)).setCells wr.heap.size 0 (dcells x))
             obtain ⟨x1, hx1⟩ : ∃ x, x = wr.heap.size := ⟨_, rfl⟩
             rw [← hx1] at HBK HK2 HC1 ⊢
             have Hx1 := Lib.hid hx1
             clear hx1
             generalize (wr.alloc (.cells (dcells dzero).toArray 34)).setCells x1 0 (dcells x) = W2 at HBK HK2 HC1 ⊢
             have c1 : W2.cell? ⟨x1, 1, none⟩ = some (.string x.e.key) := HC1.out))
        go_ret
        exact ⟨rfl, HK2.out.but⟩
      · have hki : ¬ (100 : Int) < (x.e.key.size : Int) := by omega
        have hks2 : x.e.key.size ≤ 100 := by omega
        have HLK := Lib.hid (look_any HK2.out.map HK2.out.tells x.e.key (by unfold maxLen; omega) _ rfl)
        obtain ⟨q, hq⟩ : ∃ q, q = ask T x.e.key := ⟨_, rfl⟩
        rw [← hq] at HLK
        have HQ := Lib.hid hq
        clear hq
        obtain ⟨f, hf⟩ : ∃ f, f = ent q := ⟨_, rfl⟩
        rw [← hf] at HLK
        clear hf
        have HRE := Lib.hid (box_deed HBK.out)
        rcases Bool.eq_false_or_eq_true x.d with hd | hd
        · have HDL := Lib.hid hd
          clear hd
          go_wp2_with (first
            | (refine wpList_load_mid rfl 34 _ rfl ga (o + k * 8) rfl [.bool x.d, .string x.e.key, .int .i64 x.e.seg, .int .i64 x.e.at_, .int .i64 x.e.len, .int .u64 (x.e.ver : Int), .int .u64 (x.e.exp : Int), .int .i64 x.e.size] _ HRG.out Tryd.underlying34 rfl deed_size ?_)
            | (refine wpList_store_mid rfl 34 _ _ rfl wr.heap.size 0 (dcells x).toArray rfl rfl (blk_there0 (Blk.new wr 34 (dcells dzero).toArray) (by rw [dcells_length]; simp [dcells_length])) (by simp only [List.size_toArray, dcells_length]; exact deed_size) (all_oneCell_toArray (dcells_one x)) ?_
               change wpList _ _ _ _ _ ((wr.alloc (.cells (dcells dzero).toArray 34)).setCells wr.heap.size 0 (dcells x))
               obtain ⟨x1, hx1⟩ : ∃ x, x = wr.heap.size := ⟨_, rfl⟩
               rw [← hx1] at HBK HK2 HLK HRE ⊢
               have Hx1 := Lib.hid hx1
               clear hx1
               generalize (wr.alloc (.cells (dcells dzero).toArray 34)).setCells x1 0 (dcells x) = W2 at HBK HK2 HLK HRE ⊢
               have c0 : W2.cell? ⟨x1, 0, none⟩ = some (.bool x.d) := HBK.out.cell 0
               have c1 : W2.cell? ⟨x1, 1, none⟩ = some (.string x.e.key) := HBK.out.cell 1
               have lk := HLK.out)
            | (refine wpList_store_mid rfl 32 _ _ rfl W2.heap.size 0 (ecells f).toArray rfl rfl (blk_there0 (Blk.new W2 32 (ecells zero).toArray) (by rw [ecells_length]; simp [ecells_length])) (by simp only [List.size_toArray, ecells_length]; exact entry_size) (all_oneCell_toArray (ecells_one f)) ?_
               change wpList _ _ _ _ _ ((W2.alloc (.cells (ecells zero).toArray 32)).setCells W2.heap.size 0 (ecells f))
               clear c0 c1 lk
               have HX2 := Lib.hid (show KR W l p mb k ((W2.alloc (.cells (ecells zero).toArray 32)).setCells W2.heap.size 0 (ecells f)) g T D ∧ Blk ((W2.alloc (.cells (ecells zero).toArray 32)).setCells W2.heap.size 0 (ecells f)) x1 34 (dcells x).toArray from ⟨HK2.out.step_but (((But.refl (fun k => k = W2.heap.size) W2).alloc _).trans' (but_setCells _ _ _ _)) (fun j hj e => by omega), HBK.out.but (((But.refl (fun k => k = W2.heap.size) W2).alloc _).trans' (but_setCells _ _ _ _)) (fun e => by have := HBK.out.lt; omega)⟩)
               obtain ⟨x2, hx2⟩ : ∃ x, x = W2.heap.size := ⟨_, rfl⟩
               rw [← hx2] at HX2 ⊢
               have Hx2 := Lib.hid hx2
               clear hx2
               generalize (W2.alloc (.cells (ecells zero).toArray 32)).setCells x2 0 (ecells f) = W3 at HX2 ⊢
               clear HRE; have HRE := Lib.hid (box_deed HX2.out.2)
               have c0 : W3.cell? ⟨x1, 0, none⟩ = some (.bool true) := by rw [← HDL.out]; exact HX2.out.2.cell 0
               have c1 : W3.cell? ⟨x1, 1, none⟩ = some (.string x.e.key) := HX2.out.2.cell 1))
          have HDC := Lib.hid (kdel_any HX2.out.1.tab x.e.key hks2 (by omega))
          rw [← HQ.out] at HDC
          refine HDC.out.mono ?_
          rintro e w4 ⟨rfl, hA4, hB4⟩
          have hm4 := ownsMap_but HX2.out.1.map hB4 (fun e => by
            rcases e with e | e
            · exact map_blk_ne HX2.out.1.map HX2.out.1.tab.blk e
            · exact map_blk_ne HX2.out.1.map HX2.out.1.tab.row e)
          have hx4 := HX2.out.2.but hB4 (fun e => by
            rcases e with e | e
            · exact HX2.out.1.tab.blk.ne_ HX2.out.2 (by decide) e.symm
            · exact HX2.out.1.tab.row.ne_ HX2.out.2 (by decide) e.symm)
          have c2 : w4.cell? ⟨x1, 1, none⟩ = some (.string x.e.key) := hx4.cell 1
          have HM4 := Lib.hid hm4
          have HA4 := Lib.hid hA4
          have HB4 := Lib.hid hB4
          obtain ⟨b0, hb0⟩ : ∃ b0, b0 = q.isSome := ⟨_, rfl⟩
          rw [← hb0]
          clear hm4 hx4 hA4 hB4 HDC hb0 c0 c1
          go_wp2_with (at_delete; refine wpList_delete_own _ rfl _ _ 54 9 rfl 32 law Tryd.underlying54 _ mb _ _ rfl HM4.out _ _ rfl (WideMaps.keyOf_string_mk Tryd.underlying9 (by unfold maxLen; omega)) ?_; intro w5 hm5 ht5; clear c2)
          have HK5 := Lib.hid (show KR W l p mb (k + 1) w5 g (Key.del T x.e.key) (D.del (.string x.e.key.data.toList)) from by
            have h1 := hks2
            have h2 := HA4.out
            rw [HX.out] at hm5 h1 h2 ⊢
            exact HX2.out.1.del hkl h2 HB4.out hm5 (turned_but ht5) h1)
          clear hm5 ht5
          clear HX2 HLK HRE HRG HBK HK2 HM4 HA4 HB4 HX HQ
          obtain ⟨T5, hT5⟩ : ∃ T5, T5 = Key.del T x.e.key := ⟨_, rfl⟩
          obtain ⟨D5, hD5⟩ : ∃ D5, D5 = D.del (.string x.e.key.data.toList) := ⟨_, rfl⟩
          rw [← hT5, ← hD5] at HK5
          clear hT5 hD5
          have HPL := Lib.hid (kplaces_any HK5.out.tab (HC.out.but HK5.out.but (fun _ _ h => h)))
          have hpow := HK5.out.tab.good.pow
          have heig := HK5.out.tab.good.eight
          have hload := HK5.out.tab.good.load
          have hlt5 := HK5.out.tab.lt
          obtain ⟨m5, hm5⟩ : ∃ m, m = T5.length := ⟨_, rfl⟩
          rw [← hm5] at HPL hpow heig hload hlt5
          clear hm5
          have hband : bits .and .i64 (m5 : Int) ((m5 : Int) - 1) = 0 := by
            obtain ⟨j, _, h2⟩ := hpow
            have h3 := i64_and_nat m5 (m5 - 1) (by omega) (by omega)
            rw [show (((m5 - 1 : Nat)) : Int) = (m5 : Int) - 1 by omega] at h3
            rw [h3, h2, pow_and]
            rfl
          have h8 : ¬ (m5 : Int) < 8 := by omega
          have h34 : ¬ 3 * (m5 : Int) < 4 * (cnt T5 : Int) := by omega
          have h10 : (m5 : Int) ≤ 4000 := by omega
          have h11 : (cnt T5 : Int) ≤ 4000 := by omega
          clear hpow heig hload hlt5
          go_wp2_with fail
          refine HPL.out.mono ?_
          rintro e w6 ⟨rfl, -, hB6⟩
          have HK6 := Lib.hid (HK5.out.step_but hB6 (fun j hj h => h))
          clear hB6 HPL
          have HLN := Lib.hid (klen_any HK6.out.tab)
          have lm := fun ty => (HK6.out.map).len Tryd.underlying54 ty
          rw [HK6.out.tells.size] at lm
          obtain ⟨c5, hc5⟩ : ∃ c5, c5 = cnt T5 := ⟨_, rfl⟩
          rw [← hc5] at HLN lm h34 h11
          clear hc5
          go_wp2_with fail
          refine HLN.out.mono ?_
          rintro e w7 ⟨rfl, rfl⟩
          go_wp2_with fail
          refine HLN.out.mono ?_
          rintro e w7 ⟨rfl, rfl⟩
          clear lm
          go_wp2_with fail
          go_roundw
          case rel => exact ⟨k + 1, g, T5, D5, by omega, by go_num, HK6.out⟩
          case measure => simp [intOf]; omega

        · have HDL := Lib.hid hd
          clear hd
          go_wp2_with (first
            | (refine wpList_load_mid rfl 34 _ rfl ga (o + k * 8) rfl [.bool x.d, .string x.e.key, .int .i64 x.e.seg, .int .i64 x.e.at_, .int .i64 x.e.len, .int .u64 (x.e.ver : Int), .int .u64 (x.e.exp : Int), .int .i64 x.e.size] _ HRG.out Tryd.underlying34 rfl deed_size ?_)
            | (refine wpList_store_mid rfl 34 _ _ rfl wr.heap.size 0 (dcells x).toArray rfl rfl (blk_there0 (Blk.new wr 34 (dcells dzero).toArray) (by rw [dcells_length]; simp [dcells_length])) (by simp only [List.size_toArray, dcells_length]; exact deed_size) (all_oneCell_toArray (dcells_one x)) ?_
               change wpList _ _ _ _ _ ((wr.alloc (.cells (dcells dzero).toArray 34)).setCells wr.heap.size 0 (dcells x))
               obtain ⟨x1, hx1⟩ : ∃ x, x = wr.heap.size := ⟨_, rfl⟩
               rw [← hx1] at HBK HK2 HLK HRE ⊢
               have Hx1 := Lib.hid hx1
               clear hx1
               generalize (wr.alloc (.cells (dcells dzero).toArray 34)).setCells x1 0 (dcells x) = W2 at HBK HK2 HLK HRE ⊢
               have c0 : W2.cell? ⟨x1, 0, none⟩ = some (.bool x.d) := HBK.out.cell 0
               have c1 : W2.cell? ⟨x1, 1, none⟩ = some (.string x.e.key) := HBK.out.cell 1
               have lk := HLK.out)
            | (refine wpList_store_mid rfl 32 _ _ rfl W2.heap.size 0 (ecells f).toArray rfl rfl (blk_there0 (Blk.new W2 32 (ecells zero).toArray) (by rw [ecells_length]; simp [ecells_length])) (by simp only [List.size_toArray, ecells_length]; exact entry_size) (all_oneCell_toArray (ecells_one f)) ?_
               change wpList _ _ _ _ _ ((W2.alloc (.cells (ecells zero).toArray 32)).setCells W2.heap.size 0 (ecells f))
               clear c0 c1 lk
               have HX2 := Lib.hid (show KR W l p mb k ((W2.alloc (.cells (ecells zero).toArray 32)).setCells W2.heap.size 0 (ecells f)) g T D ∧ Blk ((W2.alloc (.cells (ecells zero).toArray 32)).setCells W2.heap.size 0 (ecells f)) x1 34 (dcells x).toArray from ⟨HK2.out.step_but (((But.refl (fun k => k = W2.heap.size) W2).alloc _).trans' (but_setCells _ _ _ _)) (fun j hj e => by omega), HBK.out.but (((But.refl (fun k => k = W2.heap.size) W2).alloc _).trans' (but_setCells _ _ _ _)) (fun e => by have := HBK.out.lt; omega)⟩)
               obtain ⟨x2, hx2⟩ : ∃ x, x = W2.heap.size := ⟨_, rfl⟩
               rw [← hx2] at HX2 ⊢
               have Hx2 := Lib.hid hx2
               clear hx2
               generalize (W2.alloc (.cells (ecells zero).toArray 32)).setCells x2 0 (ecells f) = W3 at HX2 ⊢
               clear HRE; have HRE := Lib.hid (box_deed HX2.out.2)
               have c0 : W3.cell? ⟨x1, 0, none⟩ = some (.bool false) := by rw [← HDL.out]; exact HX2.out.2.cell 0
               have c1 : W3.cell? ⟨x1, 1, none⟩ = some (.string x.e.key) := HX2.out.2.cell 1)
            | (refine wpList_load_mid rfl 32 _ rfl x1 1 rfl [.string x.e.key, .int .i64 x.e.seg, .int .i64 x.e.at_, .int .i64 x.e.len, .int .u64 (x.e.ver : Int), .int .u64 (x.e.exp : Int), .int .i64 x.e.size] _ HRE.out Tryd.underlying32 rfl entry_size ?_))
          have HPC := Lib.hid (kput_any HX2.out.1.tab x.e hks2 (by omega))
          refine HPC.out.mono ?_
          rintro e w4 ⟨rfl, g4, hA4, hg4, hB4⟩
          have hm4 := ownsMap_but HX2.out.1.map hB4 (fun e => by
            rcases e with e | e
            · exact map_blk_ne HX2.out.1.map HX2.out.1.tab.blk e
            · exact map_blk_ne HX2.out.1.map HX2.out.1.tab.row e)
          have hx4 := HX2.out.2.but hB4 (fun e => by
            rcases e with e | e
            · exact HX2.out.1.tab.blk.ne_ HX2.out.2 (by decide) e.symm
            · exact HX2.out.1.tab.row.ne_ HX2.out.2 (by decide) e.symm)
          have c2 : w4.cell? ⟨x1, 1, none⟩ = some (.string x.e.key) := hx4.cell 1
          have HRE4 := Lib.hid (box_deed hx4)
          have HM4 := Lib.hid hm4
          have HA4 := Lib.hid hA4
          have HB4 := Lib.hid hB4
          have HG4 := Lib.hid hg4
          clear hm4 hx4 hA4 hB4 HPC hg4 c0 c1
          go_wp2_with (first
            | (refine wpList_load_mid rfl 32 _ rfl x1 1 rfl [.string x.e.key, .int .i64 x.e.seg, .int .i64 x.e.at_, .int .i64 x.e.len, .int .u64 (x.e.ver : Int), .int .u64 (x.e.exp : Int), .int .i64 x.e.size] _ HRE4.out Tryd.underlying32 rfl entry_size ?_)
            | (at_mapUpdate; refine wpList_mapUpdate_own _ rfl _ _ _ 54 rfl 9 32 law Tryd.underlying54 entElem mb k D rfl HM4.out (by unfold maxLen; omega) _ _ _ rfl rfl (WideMaps.keyOf_string_mk Tryd.underlying9 (by unfold maxLen; omega)) (.held x.e) [] (entElem_ev x.e) ?_; intro w5 hm5 ht5; clear c2))
          have HK5 := Lib.hid (show KR W l p mb (k + 1) w5 g4 (Key.put T x.e) (D.put (.string x.e.key.data.toList) (.held x.e)) from by
            have h1 := hks2
            have h2 := HA4.out
            rw [HX.out] at hm5 h1 h2 ⊢
            exact HX2.out.1.put hkl h2 HG4.out HB4.out hm5 ((But.of_grown ht5).mono (fun j hj e => by injection e)) h1)
          clear hm5 ht5
          clear HX2 HLK HRE HRG HBK HK2 HM4 HA4 HB4 HX HQ
          obtain ⟨T5, hT5⟩ : ∃ T5, T5 = Key.put T x.e := ⟨_, rfl⟩
          obtain ⟨D5, hD5⟩ : ∃ D5, D5 = D.put (.string x.e.key.data.toList) (.held x.e) := ⟨_, rfl⟩
          rw [← hT5, ← hD5] at HK5
          clear hT5 hD5
          have HPL := Lib.hid (kplaces_any HK5.out.tab (HC.out.but HK5.out.but (fun _ _ h => h)))
          have hpow := HK5.out.tab.good.pow
          have heig := HK5.out.tab.good.eight
          have hload := HK5.out.tab.good.load
          have hlt5 := HK5.out.tab.lt
          obtain ⟨m5, hm5⟩ : ∃ m, m = T5.length := ⟨_, rfl⟩
          rw [← hm5] at HPL hpow heig hload hlt5
          clear hm5
          have hband : bits .and .i64 (m5 : Int) ((m5 : Int) - 1) = 0 := by
            obtain ⟨j, _, h2⟩ := hpow
            have h3 := i64_and_nat m5 (m5 - 1) (by omega) (by omega)
            rw [show (((m5 - 1 : Nat)) : Int) = (m5 : Int) - 1 by omega] at h3
            rw [h3, h2, pow_and]
            rfl
          have h8 : ¬ (m5 : Int) < 8 := by omega
          have h34 : ¬ 3 * (m5 : Int) < 4 * (cnt T5 : Int) := by omega
          have h10 : (m5 : Int) ≤ 4000 := by omega
          have h11 : (cnt T5 : Int) ≤ 4000 := by omega
          clear hpow heig hload hlt5
          go_wp2_with fail
          refine HPL.out.mono ?_
          rintro e w6 ⟨rfl, -, hB6⟩
          have HK6 := Lib.hid (HK5.out.step_but hB6 (fun j hj h => h))
          clear hB6 HPL
          have HLN := Lib.hid (klen_any HK6.out.tab)
          have lm := fun ty => (HK6.out.map).len Tryd.underlying54 ty
          rw [HK6.out.tells.size] at lm
          obtain ⟨c5, hc5⟩ : ∃ c5, c5 = cnt T5 := ⟨_, rfl⟩
          rw [← hc5] at HLN lm h34 h11
          clear hc5
          go_wp2_with fail
          refine HLN.out.mono ?_
          rintro e w7 ⟨rfl, rfl⟩
          go_wp2_with fail
          refine HLN.out.mono ?_
          rintro e w7 ⟨rfl, rfl⟩
          clear lm
          go_wp2_with fail
          go_roundw
          case rel => exact ⟨k + 1, g4, T5, D5, by omega, by go_num, HK6.out⟩
          case measure => simp [intOf]; omega

    · have hK2 := hK
      have HK := Lib.hid hK
      clear hK hK2 hnn
      go_wp2_with fail
      go_loopw [11] (fun x wv => ∃ j : Nat, j ≤ n ∧ x = .int .i64 (j : Int) ∧ KR W l p mb k wv g T D) (fun x _ => n - (intOf x).toNat)
      case atStart => exact ⟨0, by omega, rfl, HK.out⟩
      case round =>
        obtain ⟨j, hj, rfl, hK⟩ := hrel
        have hnn := HN.out
        by_cases hjl : j < n
        · have hkl : j < l.length := by omega
          obtain ⟨ga, o, ha, hga, hcl⟩ := HDD.out.at_ (by omega)
          subst ha
          have hkey := hK.keys j hkl (by omega)
          have hcell := fun V (hV : But (fun _ => False) W V) => (hV.cell (p := ⟨ga, o + j * 8 + 1, none⟩) hga (fun h => h)).trans (hcl j hkl 1 _ rfl)
          obtain ⟨s, hs⟩ : ∃ s, s = (l[j]).e.key := ⟨_, rfl⟩
          have HCL := Lib.hid (fun V (hV : But (fun _ => False) W V) => show V.cell? ⟨ga, o + j * 8 + 1, none⟩ = some (.string s) by rw [hs]; exact hcell V hV)
          rw [← hs] at hkey
          obtain ⟨q, hq⟩ : ∃ q, q = ask T s := ⟨_, rfl⟩
          have HGT := Lib.hid (kget2_any hK.tab s hkey q hq.symm)
          have HKJ := Lib.hid hK
          have HQ := Lib.hid hq
          have c0 := HCL.out wr hK.but
          clear hK hcell hcl hga hs hq hnn
          go_wp2_with fail
          refine HGT.out.mono ?_
          rintro e w4 ⟨rfl, hB4⟩
          have HK4 := Lib.hid (HKJ.out.step_but hB4 (fun j hj h => h))
          clear hB4 HGT c0 HKJ
          obtain ⟨f, hf⟩ : ∃ f, f = ent q := ⟨_, rfl⟩
          rw [← hf]
          have HF := Lib.hid hf
          have HLK := Lib.hid (fun V (hV : KR W l p mb k V g T D) => look_any hV.map hV.tells s (by unfold maxLen; omega) q HQ.out.symm)
          rw [← hf] at HLK
          clear hf
          have HKB := Lib.hid (show KR W l p mb k ((w4.alloc (.cells (ecells zero).toArray 32)).setCells w4.heap.size 0 (ecells f)) g T D ∧ Blk ((w4.alloc (.cells (ecells zero).toArray 32)).setCells w4.heap.size 0 (ecells f)) w4.heap.size 32 (ecells f).toArray from ⟨HK4.out.step_but (((But.refl (fun k => k = w4.heap.size) w4).alloc _).trans' (but_setCells _ _ _ _)) (fun j hj e => by omega), blk_set0 (Blk.new _ _ _) (by rw [ecells_length, ecells_length])⟩)
          go_wp2_with (first
            | (refine wpList_store_mid rfl 32 _ _ rfl w4.heap.size 0 (ecells f).toArray rfl rfl (blk_there0 (Blk.new w4 32 (ecells zero).toArray) (by rw [ecells_length]; simp [ecells_length])) (by simp only [List.size_toArray, ecells_length]; exact entry_size) (all_oneCell_toArray (ecells_one f)) ?_
               change wpList _ _ _ _ _ ((w4.alloc (.cells (ecells zero).toArray 32)).setCells w4.heap.size 0 (ecells f))
               obtain ⟨x1, hx1⟩ : ∃ x, x = w4.heap.size := ⟨_, rfl⟩
               rw [← hx1] at HKB ⊢
               clear hx1
               generalize (w4.alloc (.cells (ecells zero).toArray 32)).setCells x1 0 (ecells f) = W5 at HKB ⊢
               have c1 := HCL.out W5 HKB.out.1.but
               have lk := HLK.out W5 HKB.out.1)
            | (refine wpList_store_mid rfl 32 _ _ rfl W5.heap.size 0 (ecells f).toArray rfl rfl (blk_there0 (Blk.new W5 32 (ecells zero).toArray) (by rw [ecells_length]; simp [ecells_length])) (by simp only [List.size_toArray, ecells_length]; exact entry_size) (all_oneCell_toArray (ecells_one f)) ?_
               change wpList _ _ _ _ _ ((W5.alloc (.cells (ecells zero).toArray 32)).setCells W5.heap.size 0 (ecells f))
               clear c1 lk
               have HKC := Lib.hid (show KR W l p mb k ((W5.alloc (.cells (ecells zero).toArray 32)).setCells W5.heap.size 0 (ecells f)) g T D ∧ Blk ((W5.alloc (.cells (ecells zero).toArray 32)).setCells W5.heap.size 0 (ecells f)) x1 32 (ecells f).toArray ∧ Blk ((W5.alloc (.cells (ecells zero).toArray 32)).setCells W5.heap.size 0 (ecells f)) W5.heap.size 32 (ecells f).toArray from ⟨HKB.out.1.step_but (((But.refl (fun k => k = W5.heap.size) W5).alloc _).trans' (but_setCells _ _ _ _)) (fun j hj e => by omega), HKB.out.2.but (((But.refl (fun k => k = W5.heap.size) W5).alloc _).trans' (but_setCells _ _ _ _)) (fun e => by have := HKB.out.2.lt; omega), blk_set0 (Blk.new _ _ _) (by rw [ecells_length, ecells_length])⟩)
               obtain ⟨x2, hx2⟩ : ∃ x, x = W5.heap.size := ⟨_, rfl⟩
               rw [← hx2] at HKC ⊢
               clear hx2
               generalize (W5.alloc (.cells (ecells zero).toArray 32)).setCells x2 0 (ecells f) = W6 at HKC ⊢
               have zx10 : W6.cell? ⟨x1, 0, none⟩ = some (.string f.key) := HKC.out.2.1.cell 0
               have zx11 : W6.cell? ⟨x1, 1, none⟩ = some (.int .i64 f.seg) := HKC.out.2.1.cell 1
               have zx12 : W6.cell? ⟨x1, 2, none⟩ = some (.int .i64 f.at_) := HKC.out.2.1.cell 2
               have zx13 : W6.cell? ⟨x1, 3, none⟩ = some (.int .i64 f.len) := HKC.out.2.1.cell 3
               have zx14 : W6.cell? ⟨x1, 4, none⟩ = some (.int .u64 (f.ver : Int)) := HKC.out.2.1.cell 4
               have zx15 : W6.cell? ⟨x1, 5, none⟩ = some (.int .u64 (f.exp : Int)) := HKC.out.2.1.cell 5
               have zx16 : W6.cell? ⟨x1, 6, none⟩ = some (.int .i64 f.size) := HKC.out.2.1.cell 6
               have zx20 : W6.cell? ⟨x2, 0, none⟩ = some (.string f.key) := HKC.out.2.2.cell 0
               have zx21 : W6.cell? ⟨x2, 1, none⟩ = some (.int .i64 f.seg) := HKC.out.2.2.cell 1
               have zx22 : W6.cell? ⟨x2, 2, none⟩ = some (.int .i64 f.at_) := HKC.out.2.2.cell 2
               have zx23 : W6.cell? ⟨x2, 3, none⟩ = some (.int .i64 f.len) := HKC.out.2.2.cell 3
               have zx24 : W6.cell? ⟨x2, 4, none⟩ = some (.int .u64 (f.ver : Int)) := HKC.out.2.2.cell 4
               have zx25 : W6.cell? ⟨x2, 5, none⟩ = some (.int .u64 (f.exp : Int)) := HKC.out.2.2.cell 5
               have zx26 : W6.cell? ⟨x2, 6, none⟩ = some (.int .i64 f.size) := HKC.out.2.2.cell 6
               have ne := ent_neq f f W6
               rw [decide_eq_true rfl] at ne
               unfold ev ecells at ne))
          go_roundw
          case rel => exact ⟨j + 1, by omega, by go_num, HKC.out.1⟩
          case measure => simp [intOf]; omega
        · have HE := Lib.hid (kents_any hK.tab)
          have HKJ := Lib.hid hK
          clear hK hnn
          go_wp2_with fail
          refine HE.out.mono ?_
          rintro e w4 ⟨a4, c4, L, rfl, hp, -, -, hB4⟩
          have HK4 := Lib.hid (HKJ.out.step_but hB4 (fun j hj h => h))
          have lm := fun ty => (HK4.out.map).len Tryd.underlying54 ty
          have hlen : L.length = cnt T := by rw [hp.length_eq, ents_length]
          rw [HK4.out.tells.size, ← hlen] at lm
          obtain ⟨m, hm⟩ : ∃ m, m = L.length := ⟨_, rfl⟩
          rw [← hm] at lm ⊢
          clear hm hlen hB4 hp HE HKJ
          go_wp2_with fail
          go_ret
          exact ⟨rfl, HK4.out.but⟩
end Go.Proofs.YtabclecfamkanaaDoor.Key

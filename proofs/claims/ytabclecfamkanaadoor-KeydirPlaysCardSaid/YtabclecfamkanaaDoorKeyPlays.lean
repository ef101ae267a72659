/- KeydirPlays: each answer, all entries, what lies at each place. -/
import Derived.Test.YtabclecfamkanaaDoorKeyRise
import Derived.Test.YtabclecfamkanaaDoorKeyKeeps
namespace Go.Proofs.YtabclecfamkanaaDoor.Key
open Go.Proofs.YtabclecfamkanaaDoor.Mem Go.Proofs.YtabclecfamkanaaDoor.Fnv
open Go.ChangeShapes Go.WideShapes Go.ChangeAt Go.RowKit
set_option linter.unusedVariables false
set_option linter.unusedSimpArgs false
theorem yields_entryX {ops : Array Oper} {S : World → Prop} {op : Oper} {a : Act} (hw : Region.wanted op (yielded ops a.tmps) = true) (x : Operand) (ho : op.op = .load 32 x) (b o : Nat) (hx : a.eval x = .pointer (some ⟨b, o, none⟩)) (q : Ent) (hS : ∀ w, S w → w.rangeAt b o (ecells q)) : YieldsIf Tryd.prog ops S op (.agg #[.string q.key, .int .i64 q.seg, .int .i64 q.at_, .int .i64 q.len, .int .u64 (q.ver : Int), .int .u64 (q.exp : Int), .int .i64 q.size]) a := yields_entry hw x ho b o hx q hS
theorem yields_rentryX {ops : Array Oper} {S : World → Prop} {op : Oper} {a : Act} (hw : Region.wanted op (yielded ops a.tmps) = true) (x : Operand) (ho : op.op = .load 38 x) (b o : Nat) (hx : a.eval x = .pointer (some ⟨b, o, none⟩)) (q : Ent) (hS : ∀ w, S w → w.rangeAt b o (ecells q)) : YieldsIf Tryd.prog ops S op (.agg #[.string q.key, .int .i64 q.seg, .int .i64 q.at_, .int .i64 q.len, .int .u64 (q.ver : Int), .int .u64 (q.exp : Int), .int .i64 q.size]) a := yields_rentry hw x ho b o hx q hS
theorem yields_zero {ops : Array Oper} {S : World → Prop} {op : Oper} {a : Act} (hw : Region.wanted op (yielded ops a.tmps) = true) (x : Operand) (ho : op.op = .load 32 x) (b o : Nat) (hx : a.eval x = .pointer (some ⟨b, o, none⟩)) (hS : ∀ w, S w → w.rangeAt b o (ecells zero)) : YieldsIf Tryd.prog ops S op (.agg #[.string ⟨#[]⟩, .int .i64 0, .int .i64 0, .int .i64 0, .int .u64 0, .int .u64 0, .int .i64 0]) a := yields_entry hw x ho b o hx zero hS
set_option maxRecDepth 100000 in
set_option maxHeartbeats 8000000 in
theorem plays_any (W : World) (a : Option Addr) (l : List Deed) (c : Nat) (hD : Deeds W a l) (hl : l.length ≤ 150) (hc : Can W) :
    Calls Tryd.prog 3 #[.slice a l.length c] W fun e w' => e = .returned (.bool true) ∧ But (fun _ => False) W w' := by
  have HU := Lib.hid (up_any hc)
  have HC := Lib.hid hc
  have HDD := Lib.hid hD
  obtain ⟨n, hn⟩ : ∃ n, n = l.length := ⟨_, rfl⟩
  have HN := Lib.hid hn
  rw [← hn] at hl ⊢
  clear hc hD hn
  go_enter Tryd.func3, Tryd.ntmps3
  go_wp2_with fail
  refine HU.out.mono ?_
  rintro e w1 ⟨rfl, hB1⟩
  have HNW := Lib.hid (knew_any w1)
  have HB1 := Lib.hid hB1
  clear hB1 HU
  go_wp2_with fail
  refine HNW.out.mono ?_
  rintro e w2 ⟨rfl, hA, hB⟩
  have HA2 := Lib.hid hA
  have HB2 := Lib.hid (HB1.out.trans hB (fun j hj h => h))
  have HRN := Lib.hid (rnew_any w2)
  have HP := Lib.hid (show W.heap.size ≤ w1.heap.size + 1 ∧ W.heap.size ≤ w1.heap.size from by have := HB1.out.size; omega)
  obtain ⟨p, hp⟩ : ∃ p, p = w1.heap.size + 1 := ⟨_, rfl⟩
  rw [← hp] at HA2 HP
  rw [← hp]
  clear hA hB HNW hp
  go_wp2_with fail
  refine HRN.out.mono ?_
  rintro e w3 ⟨rp, rfl, gl, gu, hR, hs1, hs2, hs3, hB⟩
  have HPR := Lib.hid (show PR W p rp 0 w3 w1.heap.size (List.replicate 8 none) gl gu (List.replicate 8 zero) 8 from ⟨HA2.out.but hB (fun h => h) (fun h => h), hR, HB2.out.trans hB (fun j hj h => h), HP.out.1, HP.out.2, by have := HB2.out.size; omega, by have := HB2.out.size; omega, by have := HB2.out.size; omega⟩)
  clear hR hs1 hs2 hs3 hB HRN HA2 HB2 HB1 HP
  go_wp2_with fail
  go_loopw [6] (fun x wr => ∃ (k g : Nat) (T : Tab) (gl gu : Nat) (X : List Ent) (m : Nat), k ≤ n ∧ x = .int .i64 (k : Int) ∧ PR W p rp k wr g T gl gu X m) (fun x _ => n - (intOf x).toNat)
  case atStart => exact ⟨0, _, _, _, _, _, _, by omega, rfl, HPR.out⟩
  case round =>
    obtain ⟨k, g, T, gl, gu, X, m, hk, rfl, hK⟩ := hrel
    have hnn := HN.out
    by_cases hlt : k < n
    · have hkl : k < l.length := by omega
      obtain ⟨ga, o, ha, hga, hcl⟩ := HDD.out.at_ (by omega)
      subst ha
      have hrg := range_but (dcells_range hcl hkl) hK.but hga (fun h => h)
      obtain ⟨x, hx⟩ : ∃ x, x = l[k] := ⟨_, rfl⟩
      rw [← hx] at hrg
      have HRG := Lib.hid hrg
      have HBK := Lib.hid (show Blk ((wr.alloc (.cells (dcells dzero).toArray 34)).setCells wr.heap.size 0 (dcells x)) wr.heap.size 34 (dcells x).toArray from blk_set0 (Blk.new _ _ _) (by rw [dcells_length, dcells_length]))
      have HK2 := Lib.hid (hK.step_but (((But.refl (fun k => k = wr.heap.size) wr).alloc (.cells (dcells dzero).toArray 34)).trans' (but_setCells wr.heap.size (dcells x) 0 _)) (fun j hj e => by omega))
      clear hK hrg hx hcl hga hnn hkl HPR
      by_cases hks : 100 < x.e.key.size
      · have hki : (100 : Int) < (x.e.key.size : Int) := by omega
        have HC1 := Lib.hid (HBK.out.cell 1)
        go_wp2_with (first
          | (refine wpList_load_mid rfl 34 _ rfl ga (o + k * 8) rfl [.bool x.d, .string x.e.key, .int .i64 x.e.seg, .int .i64 x.e.at_, .int .i64 x.e.len, .int .u64 (x.e.ver : Int), .int .u64 (x.e.exp : Int), .int .i64 x.e.size] _ HRG.out Tryd.underlying34 rfl deed_size ?_)
          | (refine wpList_store_mid rfl 34 _ _ rfl wr.heap.size 0 (dcells x).toArray rfl rfl (blk_there0 (Blk.new wr 34 (dcells dzero).toArray) (by rw [dcells_length]; simp [dcells_length])) (by simp only [List.size_toArray, dcells_length]; exact deed_size) (all_oneCell_toArray (dcells_one x)) ?_
             change wpList _ _ _ _ _ ((wr.alloc (.cells (dcells dzero).toArray 34)).setCells wr.heap.size 0 (dcells x))
             obtain ⟨x1, hx1⟩ : ∃ x, x = wr.heap.size := ⟨_, rfl⟩
             rw [← hx1] at HBK HK2 HC1 ⊢
             have Hx1 := Lib.hid hx1
             clear hx1
             generalize (wr.alloc (.cells (dcells dzero).toArray 34)).setCells x1 0 (dcells x) = W2 at HBK HK2 HC1 ⊢
             have c1 : W2.cell? ⟨x1, 1, none⟩ = some (.string x.e.key) := HC1.out))
        go_ret
        exact ⟨rfl, HK2.out.but⟩
      · have hki : ¬ (100 : Int) < (x.e.key.size : Int) := by omega
        have hks2 : x.e.key.size ≤ 100 := by omega
        have HRE := Lib.hid (box_deed HBK.out)
        rcases Bool.eq_false_or_eq_true x.d with hd | hd
        · have HDL := Lib.hid hd
          clear hd
          go_wp2_with (first
            | (refine wpList_load_mid rfl 34 _ rfl ga (o + k * 8) rfl [.bool x.d, .string x.e.key, .int .i64 x.e.seg, .int .i64 x.e.at_, .int .i64 x.e.len, .int .u64 (x.e.ver : Int), .int .u64 (x.e.exp : Int), .int .i64 x.e.size] _ HRG.out Tryd.underlying34 rfl deed_size ?_)
            | (refine wpList_store_mid rfl 34 _ _ rfl wr.heap.size 0 (dcells x).toArray rfl rfl (blk_there0 (Blk.new wr 34 (dcells dzero).toArray) (by rw [dcells_length]; simp [dcells_length])) (by simp only [List.size_toArray, dcells_length]; exact deed_size) (all_oneCell_toArray (dcells_one x)) ?_
               change wpList _ _ _ _ _ ((wr.alloc (.cells (dcells dzero).toArray 34)).setCells wr.heap.size 0 (dcells x))
               obtain ⟨x1, hx1⟩ : ∃ x, x = wr.heap.size := ⟨_, rfl⟩
               rw [← hx1] at HBK HK2 HRE ⊢
               have Hx1 := Lib.hid hx1
               clear hx1
               generalize (wr.alloc (.cells (dcells dzero).toArray 34)).setCells x1 0 (dcells x) = W2 at HBK HK2 HRE ⊢
               have c0 : W2.cell? ⟨x1, 0, none⟩ = some (.bool true) := by rw [← HDL.out]; exact HBK.out.cell 0
               have c1 : W2.cell? ⟨x1, 1, none⟩ = some (.string x.e.key) := HBK.out.cell 1))
          clear c0 c1 HRE HRG
          have HD := Lib.hid ((But.refl (fun _ => False) W2).drew)
          have HKD := Lib.hid (HK2.out.step_but HD.out (fun j hj h => h))
          have HBD := Lib.hid (HBK.out.but HD.out (fun h => h))
          have HDC := Lib.hid (kdel_any HKD.out.tab x.e.key hks2 (by omega))
          obtain ⟨b0, hb0⟩ : ∃ b0, b0 = (ask T x.e.key).isSome := ⟨_, rfl⟩
          have HB0 := Lib.hid hb0
          rw [← hb0] at HDC
          clear hb0 HK2 HBK HD
          refine Late.region_goes (fun V => V.cell? ⟨x1, 1, none⟩ = some (.string x.e.key)) (fun _ => false) (by kernel_rfl) ?_ (fun hH => ?_)
          · exact HBD.out.cell 1
          refine Late.Goes.takeT (i := 0) (v := ?_) (by simp only [List.getElem?_toArray, List.getElem?_cons_succ, List.getElem?_cons_zero]; rfl) (by kernel_rfl) (by kernel_rfl) (by kernel_rfl) (by kernel_rfl) (by kernel_rfl) (by exact fun _ _ _ h => h) (Or.inl ⟨by rfl, ?_⟩) hH ?_
          rotate_left
          · (intro wy hSw; (try dsimp only at hSw); skip; go_simp; try (with_reducible rfl))
          try simp only [Act.put, List.setIfInBounds_toArray, List.set_cons_zero, List.set_cons_succ]
          refine Late.Goes.takeT (i := 1) (v := ?_) (by simp only [List.getElem?_toArray, List.getElem?_cons_succ, List.getElem?_cons_zero]; rfl) (by kernel_rfl) (by kernel_rfl) (by kernel_rfl) (by kernel_rfl) (by kernel_rfl) (by exact fun _ _ _ h => h) (Or.inl ⟨by rfl, ?_⟩) hH ?_
          rotate_left
          · (intro wy hSw; (try dsimp only at hSw); skip; go_simp; try (with_reducible rfl))
          try simp only [Act.put, List.setIfInBounds_toArray, List.set_cons_zero, List.set_cons_succ]
          refine Late.Goes.takeT (i := 2) (v := ?_) (by simp only [List.getElem?_toArray, List.getElem?_cons_succ, List.getElem?_cons_zero]; rfl) (by kernel_rfl) (by kernel_rfl) (by kernel_rfl) (by kernel_rfl) (by kernel_rfl) (by exact fun _ _ _ h => h) (Or.inl ⟨by rfl, ?_⟩) hH ?_
          rotate_left
          · (intro wy hSw; (try dsimp only at hSw); skip; go_simp; try (with_reducible rfl))
          try simp only [Act.put, List.setIfInBounds_toArray, List.set_cons_zero, List.set_cons_succ]
          refine Late.Goes.takeT (i := 3) (v := ?_) (by simp only [List.getElem?_toArray, List.getElem?_cons_succ, List.getElem?_cons_zero]; rfl) (by kernel_rfl) (by kernel_rfl) (by kernel_rfl) (by kernel_rfl) (by kernel_rfl) (by exact fun _ _ _ h => h) (Or.inl ⟨by rfl, ?_⟩) hH ?_
          rotate_left
          · (intro wy hSw; (try dsimp only at hSw); skip; go_simp; try (with_reducible rfl))
          try simp only [Act.put, List.setIfInBounds_toArray, List.set_cons_zero, List.set_cons_succ]
          refine Late.Goes.takeT (i := 5) (v := ?_) (by simp only [List.getElem?_toArray, List.getElem?_cons_succ, List.getElem?_cons_zero]; rfl) (by kernel_rfl) (by kernel_rfl) (by kernel_rfl) (by kernel_rfl) (by kernel_rfl) (by exact fun _ _ _ h => h) (Or.inl ⟨by rfl, ?_⟩) hH ?_
          rotate_left
          · (intro wy hSw; (try dsimp only at hSw); skip; go_simp; try (with_reducible rfl))
          try simp only [Act.put, List.setIfInBounds_toArray, List.set_cons_zero, List.set_cons_succ]
          refine Late.Goes.takeT (i := 6) (v := ?_) (by simp only [List.getElem?_toArray, List.getElem?_cons_succ, List.getElem?_cons_zero]; rfl) (by kernel_rfl) (by kernel_rfl) (by kernel_rfl) (by kernel_rfl) (by kernel_rfl) (by exact fun _ _ _ h => h) (Or.inl ⟨by rfl, ?_⟩) hH ?_
          rotate_left
          · (intro wy hSw; (try dsimp only at hSw); skip; go_simp; try (with_reducible rfl))
          try simp only [Act.put, List.setIfInBounds_toArray, List.set_cons_zero, List.set_cons_succ]
          refine Late.Goes.takeT (i := 7) (v := ?_) (by simp only [List.getElem?_toArray, List.getElem?_cons_succ, List.getElem?_cons_zero]; rfl) (by kernel_rfl) (by kernel_rfl) (by kernel_rfl) (by kernel_rfl) (by kernel_rfl) (by exact fun _ _ _ h => h) (Or.inl ⟨by rfl, ?_⟩) hH ?_
          rotate_left
          · (intro wy hSw; (try dsimp only at hSw); skip; go_simp; try (with_reducible rfl))
          try simp only [Act.put, List.setIfInBounds_toArray, List.set_cons_zero, List.set_cons_succ]
          refine Late.Goes.takeT (i := 8) (v := ?_) (by simp only [List.getElem?_toArray, List.getElem?_cons_succ, List.getElem?_cons_zero]; rfl) (by kernel_rfl) (by kernel_rfl) (by kernel_rfl) (by kernel_rfl) (by kernel_rfl) (by exact fun _ _ _ h => h) (Or.inl ⟨by rfl, ?_⟩) hH ?_
          rotate_left
          · (intro wy hSw; (try dsimp only at hSw); skip; go_simp; try (with_reducible rfl))
          try simp only [Act.put, List.setIfInBounds_toArray, List.set_cons_zero, List.set_cons_succ]
          refine Late.Goes.one (i := 4) (by kernel_rfl) (by simp only [List.getElem?_toArray, List.getElem?_cons_succ, List.getElem?_cons_zero]; rfl) (fun K hK => ?_)
          clear hH
          go_simp
          go_at_call 8
          refine HDC.out.mono ?_
          rintro e w4 ⟨rfl, hA4, hB4⟩
          have HA4 := Lib.hid hA4
          have HR4 := Lib.hid (HKD.out.ref.past HKD.out.tab.blk HKD.out.tab.row hB4)
          have HX4 := Lib.hid (HBD.out.but hB4 (fun e => by
            rcases e with e | e
            · exact HKD.out.tab.blk.ne_ HBD.out (by decide) e.symm
            · exact HKD.out.tab.row.ne_ HBD.out (by decide) e.symm))
          have HB4 := Lib.hid (HKD.out.but.trans hB4 (fun j hj e => by have := HKD.out.lows; omega))
          have HRD := Lib.hid (rdel_any HR4.out HKD.out.tab.good x.e.key hks2)
          rw [← HB0.out] at HRD
          clear hA4 hB4 HDC
          refine hK.out _ _ ?_ (fun hH => ?_)
          · exact fun _ => HX4.out.cell 1
          clear hK K
          have hH := hH rfl
          try simp only [Act.put, List.setIfInBounds_toArray, List.set_cons_zero, List.set_cons_succ]
          refine Late.Goes.one (i := 9) (by kernel_rfl) (by simp only [List.getElem?_toArray, List.getElem?_cons_succ, List.getElem?_cons_zero]; rfl) (fun K hK => ?_)
          clear hH
          go_simp
          go_at_call 9
          refine HRD.out.mono ?_
          rintro e w5 ⟨rfl, X5, hR5, hB5⟩
          have hB5' := hB5.mono (T := fun j => j = rp ∨ j = gl ∨ j = gu) (fun j hj h => .inr h)
          have HK5 := Lib.hid (show PR W p rp (k + 1) w5 g (Key.del T x.e.key) gl gu X5 m ∧ Blk w5 x1 34 (dcells x).toArray from ⟨⟨HA4.out.past HR4.out hB5', hR5, HB4.out.trans hB5 (fun j hj e => by have := HKD.out.lows; omega), HKD.out.lows⟩, HX4.out.but hB5 (fun e => by
            rcases e with e | e
            · exact HR4.out.lrow.ne_ HX4.out (by decide) e.symm
            · exact HR4.out.urow.ne_ HX4.out (by decide) e.symm)⟩)
          clear hR5 hB5 hB5' HRD
          refine hK.out _ _ ?_ (fun hH => ?_)
          · exact fun _ => HK5.out.2.cell 1
          clear hK K
          have hH := hH rfl
          try simp only [Act.put, List.setIfInBounds_toArray, List.set_cons_zero, List.set_cons_succ]
          refine Late.Goes.takeT (i := 10) (v := ?_) (by simp only [List.getElem?_toArray, List.getElem?_cons_succ, List.getElem?_cons_zero]; rfl) (by kernel_rfl) (by kernel_rfl) (by kernel_rfl) (by kernel_rfl) (by kernel_rfl) (by exact fun _ _ _ h => h) (Or.inl ⟨by rfl, ?_⟩) hH ?_
          rotate_left
          · (intro wy hSw; (try dsimp only at hSw); skip; go_simp; try (with_reducible rfl))
          try simp only [Act.put, List.setIfInBounds_toArray, List.set_cons_zero, List.set_cons_succ]
          refine Late.Goes.done (by kernel_rfl) ?_ _
          clear HKD HBD HA4 HR4 HX4 HB4 HB0
          have c2 : w5.cell? ⟨x1, 1, none⟩ = some (.string x.e.key) := HK5.out.2.cell 1
          obtain ⟨T5, hT5⟩ : ∃ T5, T5 = Key.del T x.e.key := ⟨_, rfl⟩
          rw [← hT5] at HK5
          clear hT5
          have HFD := Lib.hid (rfind_any HK5.out.1.ref HK5.out.1.tab.good.free x.e.key hks2)
          have hfl := find_lt (show 0 < T5.length by have := HK5.out.1.tab.lt; omega) x.e.key
          rw [HK5.out.1.ref.len] at hfl
          obtain ⟨f5, hf5⟩ : ∃ f, f = find T5 x.e.key := ⟨_, rfl⟩
          obtain ⟨q, hq⟩ : ∃ q, q = ask T5 x.e.key := ⟨_, rfl⟩
          have HLK := Lib.hid (show look T5 f5 = q by rw [hf5, hq]; rfl)
          have HGT := Lib.hid (kget2_any HK5.out.1.tab x.e.key hks2 q hq.symm)
          rw [← hf5] at HFD hfl
          obtain ⟨bq, hbq⟩ : ∃ b, b = q.isSome := ⟨_, rfl⟩
          obtain ⟨f, hf⟩ : ∃ f, f = ent q := ⟨_, rfl⟩
          rw [← hbq, ← hf] at HGT
          have HBQ := Lib.hid hbq
          have HF := Lib.hid hf
          have l1 := HK5.out.1.ref.few
          obtain ⟨l1, l2⟩ := l1
          clear hf5 hq hbq hf
          go_wp2_with fail
          refine HFD.out.mono ?_
          rintro e w' ⟨rfl, rfl⟩
          go_wp2_with fail
          refine HGT.out.mono ?_
          rintro e w7 ⟨rfl, hB7⟩
          have HK7 := Lib.hid (HK5.out.1.step_but hB7 (fun j hj h => h))
          clear hB7 HGT HFD HK5 c2
          have HKB := Lib.hid (show PR W p rp (k + 1) ((w7.alloc (.cells (ecells zero).toArray 32)).setCells w7.heap.size 0 (ecells f)) g T5 gl gu X5 m ∧ Blk ((w7.alloc (.cells (ecells zero).toArray 32)).setCells w7.heap.size 0 (ecells f)) w7.heap.size 32 (ecells f).toArray from ⟨HK7.out.step_but (((But.refl (fun k => k = w7.heap.size) w7).alloc _).trans' (but_setCells _ _ _ _)) (fun j hj e => by omega), blk_set0 (Blk.new _ _ _) (by rw [ecells_length, ecells_length])⟩)
          go_wp2_with (first
            | (refine wpList_store_mid rfl 32 _ _ rfl w7.heap.size 0 (ecells f).toArray rfl rfl (blk_there0 (Blk.new w7 32 (ecells zero).toArray) (by rw [ecells_length]; simp [ecells_length])) (by simp only [List.size_toArray, ecells_length]; exact entry_size) (all_oneCell_toArray (ecells_one f)) ?_
               change wpList _ _ _ _ _ ((w7.alloc (.cells (ecells zero).toArray 32)).setCells w7.heap.size 0 (ecells f))
               obtain ⟨x2, hx2⟩ : ∃ x, x = w7.heap.size := ⟨_, rfl⟩
               rw [← hx2] at HKB ⊢
               have Hx2 := Lib.hid hx2
               clear hx2
               generalize (w7.alloc (.cells (ecells zero).toArray 32)).setCells x2 0 (ecells f) = W8 at HKB ⊢
               have r1 : W8.cell? ⟨rp, 1, none⟩ = some (.slice (some ⟨gu, 0, none⟩) m m) := HKB.out.1.ref.blk.cell 1
               have u5 : W8.cell? ⟨gu, f5, none⟩ = some (.bool bq) := by rw [HKB.out.1.ref.used hfl, HLK.out, HBQ.out]))
          have HLN := Lib.hid (klen_any HKB.out.1.tab)
          refine HLN.out.mono ?_
          rintro e w' ⟨rfl, rfl⟩
          have HRL := Lib.hid (rlen_any HKB.out.1.ref)
          clear r1 u5
          go_wp2_with fail
          refine HRL.out.mono ?_
          rintro e w' ⟨rfl, rfl⟩
          have HPL := Lib.hid (kplaces_any HKB.out.1.tab (HC.out.but HKB.out.1.but (fun _ _ h => h)))
          rw [HKB.out.1.ref.len] at HPL
          clear HLN HRL
          go_wp2_with fail
          refine HPL.out.mono ?_
          rintro e w9 ⟨rfl, hP9, hB9⟩
          have HK9 := Lib.hid (HKB.out.1.step_but hB9 (fun j hj h => h))
          have HX9 := Lib.hid (HKB.out.2.but hB9 (fun h => h))
          have HP9 := Lib.hid hP9
          have HRP9 := Lib.hid (rplaces_any HK9.out.ref (HC.out.but HK9.out.but (fun _ _ h => h)))
          obtain ⟨b9, hb9⟩ : ∃ b, b = W8.heap.size := ⟨_, rfl⟩
          rw [← hb9] at HP9 ⊢
          clear hP9 hB9 HPL HKB hb9
          go_wp2_with fail
          refine HRP9.out.mono ?_
          rintro e w10 ⟨g10, c10, rfl, hg10, hc10, hB10⟩
          have HTX := Lib.hid (rtexts_any (w := w10) (n := m) b9 g10 m c10 (fun j => txt (look T5 j)) (fun j hj => by rw [(HP9.out.but hB10 (fun h => h)).cell j, List.getElem?_toArray, texts_get T5 _ _ j hj, if_pos hj]) hc10 l2 (by have := HP9.out.lt; have := hB10.size; omega) hg10)
          have HK10 := Lib.hid (HK9.out.step_but hB10 (fun j hj h => h))
          have HX10 := Lib.hid (HX9.out.but hB10 (fun h => h))
          clear hg10 hc10 hB10 HRP9 HK9 HX9 HP9
          go_wp2_with fail
          refine HTX.out.mono ?_
          rintro e w11 ⟨rfl, hB11⟩
          have HK11 := Lib.hid (HK10.out.step_but (hB11.trans ((But.refl (fun _ => False) w11).drew) (fun j hj h => h)) (fun j hj h => h))
          have HX11 := Lib.hid (HX10.out.but (hB11.trans ((But.refl (fun _ => False) w11).drew) (fun j hj h => h)) (fun h => h))
          clear hB11 HTX HK10 HX10
          go_wp2_with fail
          have HC0 := Lib.hid (fun V (hV : But (fun _ => False) w11.drew V) => show V.cell? ⟨rp, 0, none⟩ = some (.slice (some ⟨gl, 0, none⟩) m m) from (HK11.out.step_but hV (fun j hj h => h)).ref.blk.cell 0)
          have hfi : (f5 : Int) < (m : Int) := by omega
          cases q with
          | none =>
            obtain rfl : bq = false := HBQ.out
            obtain rfl : f = zero := HF.out
            have zn : ∀ w, (binOp .neq 32 (.agg #[.string ⟨#[]⟩, .int .i64 0, .int .i64 0, .int .i64 0, .int .u64 0, .int .u64 0, .int .i64 0]) (.agg #[.string ⟨#[]⟩, .int .i64 0, .int .i64 0, .int .i64 0, .int .u64 0, .int .u64 0, .int .i64 0])).run Tryd.prog w = .ok (.bool false) w := fun w => by
              have h := ent_neq zero zero w
              rw [decide_eq_true rfl] at h
              exact h
            refine Late.region_goes (fun V => V = w11.drew) (fun _ => false) (by kernel_rfl) ?_ (fun hH => ?_)
            · rfl
            refine Late.Goes.takeT (i := 0) (v := ?_) (by simp only [List.getElem?_toArray, List.getElem?_cons_succ, List.getElem?_cons_zero]; rfl) (by kernel_rfl) (by kernel_rfl) (by kernel_rfl) (by kernel_rfl) (by kernel_rfl) (by exact fun _ _ _ h => h) (Or.inl ⟨by rfl, ?_⟩) hH ?_
            rotate_left
            · (intro wy hSw; (try dsimp only at hSw); skip; go_simp; try (with_reducible rfl))
            try simp only [Act.put, List.setIfInBounds_toArray, List.set_cons_zero, List.set_cons_succ]
            refine Late.Goes.takeT (i := 1) (v := ?_) (by simp only [List.getElem?_toArray, List.getElem?_cons_succ, List.getElem?_cons_zero]; rfl) (by kernel_rfl) (by kernel_rfl) (by kernel_rfl) (by kernel_rfl) (by kernel_rfl) (by exact fun _ _ _ h => h) (Or.inl ⟨by rfl, ?_⟩) hH ?_
            rotate_left
            · (intro wy hSw; (try dsimp only at hSw); skip; go_simp; try (with_reducible rfl))
            try simp only [Act.put, List.setIfInBounds_toArray, List.set_cons_zero, List.set_cons_succ]
            refine Late.Goes.takeT (i := 2) (v := undef) (by simp only [List.getElem?_toArray, List.getElem?_cons_succ, List.getElem?_cons_zero]; rfl) (by kernel_rfl) (by kernel_rfl) (by kernel_rfl) (by kernel_rfl) (by kernel_rfl) (by exact fun _ _ _ h => h) (Or.inr ⟨by rfl, rfl⟩) hH ?_
            try simp only [Act.put, List.setIfInBounds_toArray, List.set_cons_zero, List.set_cons_succ]
            refine Late.Goes.takeT (i := 3) (v := undef) (by simp only [List.getElem?_toArray, List.getElem?_cons_succ, List.getElem?_cons_zero]; rfl) (by kernel_rfl) (by kernel_rfl) (by kernel_rfl) (by kernel_rfl) (by kernel_rfl) (by exact fun _ _ _ h => h) (Or.inr ⟨by rfl, rfl⟩) hH ?_
            try simp only [Act.put, List.setIfInBounds_toArray, List.set_cons_zero, List.set_cons_succ]
            refine Late.Goes.takeT (i := 4) (v := undef) (by simp only [List.getElem?_toArray, List.getElem?_cons_succ, List.getElem?_cons_zero]; rfl) (by kernel_rfl) (by kernel_rfl) (by kernel_rfl) (by kernel_rfl) (by kernel_rfl) (by exact fun _ _ _ h => h) (Or.inr ⟨by rfl, rfl⟩) hH ?_
            try simp only [Act.put, List.setIfInBounds_toArray, List.set_cons_zero, List.set_cons_succ]
            refine Late.Goes.takeT (i := 5) (v := undef) (by simp only [List.getElem?_toArray, List.getElem?_cons_succ, List.getElem?_cons_zero]; rfl) (by kernel_rfl) (by kernel_rfl) (by kernel_rfl) (by kernel_rfl) (by kernel_rfl) (by exact fun _ _ _ h => h) (Or.inr ⟨by rfl, rfl⟩) hH ?_
            try simp only [Act.put, List.setIfInBounds_toArray, List.set_cons_zero, List.set_cons_succ]
            refine Late.Goes.takeT (i := 6) (v := undef) (by simp only [List.getElem?_toArray, List.getElem?_cons_succ, List.getElem?_cons_zero]; rfl) (by kernel_rfl) (by kernel_rfl) (by kernel_rfl) (by kernel_rfl) (by kernel_rfl) (by exact fun _ _ _ h => h) (Or.inr ⟨by rfl, rfl⟩) hH ?_
            try simp only [Act.put, List.setIfInBounds_toArray, List.set_cons_zero, List.set_cons_succ]
            refine Late.Goes.takeT (i := 7) (v := undef) (by simp only [List.getElem?_toArray, List.getElem?_cons_succ, List.getElem?_cons_zero]; rfl) (by kernel_rfl) (by kernel_rfl) (by kernel_rfl) (by kernel_rfl) (by kernel_rfl) (by exact fun _ _ _ h => h) (Or.inr ⟨by rfl, rfl⟩) hH ?_
            try simp only [Act.put, List.setIfInBounds_toArray, List.set_cons_zero, List.set_cons_succ]
            refine Late.Goes.takeT (i := 8) (v := undef) (by simp only [List.getElem?_toArray, List.getElem?_cons_succ, List.getElem?_cons_zero]; rfl) (by kernel_rfl) (by kernel_rfl) (by kernel_rfl) (by kernel_rfl) (by kernel_rfl) (by exact fun _ _ _ h => h) (Or.inr ⟨by rfl, rfl⟩) hH ?_
            try simp only [Act.put, List.setIfInBounds_toArray, List.set_cons_zero, List.set_cons_succ]
            refine Late.Goes.takeT (i := 9) (v := undef) (by simp only [List.getElem?_toArray, List.getElem?_cons_succ, List.getElem?_cons_zero]; rfl) (by kernel_rfl) (by kernel_rfl) (by kernel_rfl) (by kernel_rfl) (by kernel_rfl) (by exact fun _ _ _ h => h) (Or.inr ⟨by rfl, rfl⟩) hH ?_
            try simp only [Act.put, List.setIfInBounds_toArray, List.set_cons_zero, List.set_cons_succ]
            refine Late.Goes.takeT (i := 10) (v := undef) (by simp only [List.getElem?_toArray, List.getElem?_cons_succ, List.getElem?_cons_zero]; rfl) (by kernel_rfl) (by kernel_rfl) (by kernel_rfl) (by kernel_rfl) (by kernel_rfl) (by exact fun _ _ _ h => h) (Or.inr ⟨by rfl, rfl⟩) hH ?_
            try simp only [Act.put, List.setIfInBounds_toArray, List.set_cons_zero, List.set_cons_succ]
            refine Late.Goes.takeT (i := 11) (v := undef) (by simp only [List.getElem?_toArray, List.getElem?_cons_succ, List.getElem?_cons_zero]; rfl) (by kernel_rfl) (by kernel_rfl) (by kernel_rfl) (by kernel_rfl) (by kernel_rfl) (by exact fun _ _ _ h => h) (Or.inr ⟨by rfl, rfl⟩) hH ?_
            try simp only [Act.put, List.setIfInBounds_toArray, List.set_cons_zero, List.set_cons_succ]
            refine Late.Goes.takeT (i := 12) (v := ?_) (by simp only [List.getElem?_toArray, List.getElem?_cons_succ, List.getElem?_cons_zero]; rfl) (by kernel_rfl) (by kernel_rfl) (by kernel_rfl) (by kernel_rfl) (by kernel_rfl) (by exact fun _ _ _ h => h) (Or.inl ⟨by rfl, ?_⟩) hH ?_
            rotate_left
            · (intro wy hSw; (try dsimp only at hSw); skip; go_simp; try (with_reducible rfl))
            try simp only [Act.put, List.setIfInBounds_toArray, List.set_cons_zero, List.set_cons_succ]
            refine Late.Goes.takeT (i := 13) (v := ?_) (by simp only [List.getElem?_toArray, List.getElem?_cons_succ, List.getElem?_cons_zero]; rfl) (by kernel_rfl) (by kernel_rfl) (by kernel_rfl) (by kernel_rfl) (by kernel_rfl) (by exact fun _ _ _ h => h) (Or.inl ⟨by rfl, ?_⟩) hH ?_
            rotate_left
            · (intro wy hSw; (try dsimp only at hSw); skip; go_simp; try (with_reducible rfl))
            try simp only [Act.put, List.setIfInBounds_toArray, List.set_cons_zero, List.set_cons_succ]
            refine Late.Goes.takeT (i := 14) (v := ?_) (by simp only [List.getElem?_toArray, List.getElem?_cons_succ, List.getElem?_cons_zero]; rfl) (by kernel_rfl) (by kernel_rfl) (by kernel_rfl) (by kernel_rfl) (by kernel_rfl) (by exact fun _ _ _ h => h) (Or.inl ⟨by rfl, ?_⟩) hH ?_
            rotate_left
            · (intro wy hSw; (try dsimp only at hSw); skip; go_simp; try (with_reducible rfl))
            try simp only [Act.put, List.setIfInBounds_toArray, List.set_cons_zero, List.set_cons_succ]
            refine Late.Goes.takeT (i := 15) (v := ?_) (by simp only [List.getElem?_toArray, List.getElem?_cons_succ, List.getElem?_cons_zero]; rfl) (by kernel_rfl) (by kernel_rfl) (by kernel_rfl) (by kernel_rfl) (by kernel_rfl) (by exact fun _ _ _ h => h) (Or.inl ⟨by rfl, ?_⟩) hH ?_
            rotate_left
            · (intro wy hSw; (try dsimp only at hSw); skip; go_simp; try (with_reducible rfl))
            try simp only [Act.put, List.setIfInBounds_toArray, List.set_cons_zero, List.set_cons_succ]
            refine Late.Goes.takeT (i := 16) (v := ?_) (by simp only [List.getElem?_toArray, List.getElem?_cons_succ, List.getElem?_cons_zero]; rfl) (by kernel_rfl) (by kernel_rfl) (by kernel_rfl) (by kernel_rfl) (by kernel_rfl) (by exact fun _ _ _ h => h) (Or.inl ⟨by rfl, ?_⟩) hH ?_
            rotate_left
            · (intro wy hSw; (try dsimp only at hSw); skip; go_simp; try (with_reducible rfl))
            try simp only [Act.put, List.setIfInBounds_toArray, List.set_cons_zero, List.set_cons_succ]
            refine Late.Goes.takeT (i := 17) (v := _) (by simp only [List.getElem?_toArray, List.getElem?_cons_succ, List.getElem?_cons_zero]; rfl) (by kernel_rfl) (by kernel_rfl) (by kernel_rfl) (by kernel_rfl) (by kernel_rfl) (by exact fun _ _ _ h => h) (yields_zero (by rfl) _ rfl x2 0 rfl (fun V hV => by rw [hV]; exact ent_range HX11.out)) hH ?_
            try simp only [Act.put, List.setIfInBounds_toArray, List.set_cons_zero, List.set_cons_succ]
            refine Late.Goes.takeT (i := 18) (v := ?_) (by simp only [List.getElem?_toArray, List.getElem?_cons_succ, List.getElem?_cons_zero]; rfl) (by kernel_rfl) (by kernel_rfl) (by kernel_rfl) (by kernel_rfl) (by kernel_rfl) (by exact fun _ _ _ h => h) (Or.inl ⟨by rfl, ?_⟩) hH ?_
            rotate_left
            · (intro wy hSw; (try dsimp only at hSw); skip; go_simp; try (with_reducible rfl))
            try simp only [Act.put, List.setIfInBounds_toArray, List.set_cons_zero, List.set_cons_succ]
            refine Late.Goes.takeT (i := 19) (v := ?_) (by simp only [List.getElem?_toArray, List.getElem?_cons_succ, List.getElem?_cons_zero]; rfl) (by kernel_rfl) (by kernel_rfl) (by kernel_rfl) (by kernel_rfl) (by kernel_rfl) (by exact fun _ _ _ h => h) (Or.inl ⟨by rfl, ?_⟩) hH ?_
            rotate_left
            · (intro wy hSw; (try dsimp only at hSw); skip; go_simp; try (with_reducible rfl))
            try simp only [Act.put, List.setIfInBounds_toArray, List.set_cons_zero, List.set_cons_succ]
            refine Late.Goes.takeT (i := 20) (v := ?_) (by simp only [List.getElem?_toArray, List.getElem?_cons_succ, List.getElem?_cons_zero]; rfl) (by kernel_rfl) (by kernel_rfl) (by kernel_rfl) (by kernel_rfl) (by kernel_rfl) (by exact fun _ _ _ h => h) (Or.inl ⟨by rfl, ?_⟩) hH ?_
            rotate_left
            · (intro wy hSw; (try dsimp only at hSw); skip; go_simp; try (with_reducible rfl))
            try simp only [Act.put, List.setIfInBounds_toArray, List.set_cons_zero, List.set_cons_succ]
            refine Late.Goes.takeT (i := 21) (v := ?_) (by simp only [List.getElem?_toArray, List.getElem?_cons_succ, List.getElem?_cons_zero]; rfl) (by kernel_rfl) (by kernel_rfl) (by kernel_rfl) (by kernel_rfl) (by kernel_rfl) (by exact fun _ _ _ h => h) (Or.inl ⟨by rfl, ?_⟩) hH ?_
            rotate_left
            · (intro wy hSw; (try dsimp only at hSw); skip; go_simp; try (with_reducible rfl))
            try simp only [Act.put, List.setIfInBounds_toArray, List.set_cons_zero, List.set_cons_succ]
            refine Late.Goes.done (by kernel_rfl) ?_ _
            go_wp2_with fail
            go_roundw
            case rel => exact ⟨k + 1, g, T5, gl, gu, X5, m, by omega, by go_num, HK11.out⟩
            case measure => simp [intOf]; omega
          | some e5 =>
            obtain rfl : bq = true := HBQ.out
            obtain rfl : f = e5 := HF.out
            have sn : ∀ w, (binOp .neq 38 (.agg #[.string f.key, .int .i64 f.seg, .int .i64 f.at_, .int .i64 f.len, .int .u64 (f.ver : Int), .int .u64 (f.exp : Int), .int .i64 f.size]) (.agg #[.string f.key, .int .i64 f.seg, .int .i64 f.at_, .int .i64 f.len, .int .u64 (f.ver : Int), .int .u64 (f.exp : Int), .int .i64 f.size])).run Tryd.prog w = .ok (.bool false) w := fun w => by
              have h := rent_neq f f w
              rw [decide_eq_true rfl] at h
              exact h
            refine Late.region_goes (fun V => But (fun _ => False) w11.drew V) (fun _ => false) (by kernel_rfl) ?_ (fun hH => ?_)
            · exact But.refl _ _
            refine Late.Goes.takeT (i := 0) (v := ?_) (by simp only [List.getElem?_toArray, List.getElem?_cons_succ, List.getElem?_cons_zero]; rfl) (by kernel_rfl) (by kernel_rfl) (by kernel_rfl) (by kernel_rfl) (by kernel_rfl) (by exact fun _ _ _ h => h) (Or.inl ⟨by rfl, ?_⟩) hH ?_
            rotate_left
            · (intro wy hSw; (try dsimp only at hSw); have k0 := HC0.out wy hSw; go_simp; try (with_reducible rfl))
            try simp only [Act.put, List.setIfInBounds_toArray, List.set_cons_zero, List.set_cons_succ]
            refine Late.Goes.takeT (i := 1) (v := ?_) (by simp only [List.getElem?_toArray, List.getElem?_cons_succ, List.getElem?_cons_zero]; rfl) (by kernel_rfl) (by kernel_rfl) (by kernel_rfl) (by kernel_rfl) (by kernel_rfl) (by exact fun _ _ _ h => h) (Or.inl ⟨by rfl, ?_⟩) hH ?_
            rotate_left
            · (intro wy hSw; (try dsimp only at hSw); have k0 := HC0.out wy hSw; go_simp; try (with_reducible rfl))
            try simp only [Act.put, List.setIfInBounds_toArray, List.set_cons_zero, List.set_cons_succ]
            refine Late.Goes.takeT (i := 2) (v := _) (by simp only [List.getElem?_toArray, List.getElem?_cons_succ, List.getElem?_cons_zero]; rfl) (by kernel_rfl) (by kernel_rfl) (by kernel_rfl) (by kernel_rfl) (by kernel_rfl) (by exact fun _ _ _ h => h) (yields_entryX (by rfl) _ rfl x2 0 rfl f (fun V hV => ent_range (HX11.out.but hV (fun h => h)))) hH ?_
            try simp only [Act.put, List.setIfInBounds_toArray, List.set_cons_zero, List.set_cons_succ]
            refine Late.Goes.takeT (i := 4) (v := ?_) (by simp only [List.getElem?_toArray, List.getElem?_cons_succ, List.getElem?_cons_zero]; rfl) (by kernel_rfl) (by kernel_rfl) (by kernel_rfl) (by kernel_rfl) (by kernel_rfl) (by exact fun _ _ _ h => h) (Or.inl ⟨by rfl, ?_⟩) hH ?_
            rotate_left
            · (intro wy hSw; (try dsimp only at hSw); have k0 := HC0.out wy hSw; go_simp; try (with_reducible rfl))
            try simp only [Act.put, List.setIfInBounds_toArray, List.set_cons_zero, List.set_cons_succ]
            refine Late.Goes.takeT (i := 5) (v := ?_) (by simp only [List.getElem?_toArray, List.getElem?_cons_succ, List.getElem?_cons_zero]; rfl) (by kernel_rfl) (by kernel_rfl) (by kernel_rfl) (by kernel_rfl) (by kernel_rfl) (by exact fun _ _ _ h => h) (Or.inl ⟨by rfl, ?_⟩) hH ?_
            rotate_left
            · (intro wy hSw; (try dsimp only at hSw); have k0 := HC0.out wy hSw; go_simp; try (with_reducible rfl))
            try simp only [Act.put, List.setIfInBounds_toArray, List.set_cons_zero, List.set_cons_succ]
            refine Late.Goes.takeT (i := 6) (v := ?_) (by simp only [List.getElem?_toArray, List.getElem?_cons_succ, List.getElem?_cons_zero]; rfl) (by kernel_rfl) (by kernel_rfl) (by kernel_rfl) (by kernel_rfl) (by kernel_rfl) (by exact fun _ _ _ h => h) (Or.inl ⟨by rfl, ?_⟩) hH ?_
            rotate_left
            · (intro wy hSw; (try dsimp only at hSw); have k0 := HC0.out wy hSw; go_simp; try (with_reducible rfl))
            try simp only [Act.put, List.setIfInBounds_toArray, List.set_cons_zero, List.set_cons_succ]
            refine Late.Goes.takeT (i := 7) (v := ?_) (by simp only [List.getElem?_toArray, List.getElem?_cons_succ, List.getElem?_cons_zero]; rfl) (by kernel_rfl) (by kernel_rfl) (by kernel_rfl) (by kernel_rfl) (by kernel_rfl) (by exact fun _ _ _ h => h) (Or.inl ⟨by rfl, ?_⟩) hH ?_
            rotate_left
            · (intro wy hSw; (try dsimp only at hSw); have k0 := HC0.out wy hSw; go_simp; try (with_reducible rfl))
            try simp only [Act.put, List.setIfInBounds_toArray, List.set_cons_zero, List.set_cons_succ]
            refine Late.Goes.takeT (i := 8) (v := ?_) (by simp only [List.getElem?_toArray, List.getElem?_cons_succ, List.getElem?_cons_zero]; rfl) (by kernel_rfl) (by kernel_rfl) (by kernel_rfl) (by kernel_rfl) (by kernel_rfl) (by exact fun _ _ _ h => h) (Or.inl ⟨by rfl, ?_⟩) hH ?_
            rotate_left
            · (intro wy hSw; (try dsimp only at hSw); have k0 := HC0.out wy hSw; go_simp; try (with_reducible rfl))
            try simp only [Act.put, List.setIfInBounds_toArray, List.set_cons_zero, List.set_cons_succ]
            refine Late.Goes.takeT (i := 9) (v := ?_) (by simp only [List.getElem?_toArray, List.getElem?_cons_succ, List.getElem?_cons_zero]; rfl) (by kernel_rfl) (by kernel_rfl) (by kernel_rfl) (by kernel_rfl) (by kernel_rfl) (by exact fun _ _ _ h => h) (Or.inl ⟨by rfl, ?_⟩) hH ?_
            rotate_left
            · (intro wy hSw; (try dsimp only at hSw); have k0 := HC0.out wy hSw; go_simp; try (with_reducible rfl))
            try simp only [Act.put, List.setIfInBounds_toArray, List.set_cons_zero, List.set_cons_succ]
            refine Late.Goes.takeT (i := 10) (v := _) (by simp only [List.getElem?_toArray, List.getElem?_cons_succ, List.getElem?_cons_zero]; rfl) (by kernel_rfl) (by kernel_rfl) (by kernel_rfl) (by kernel_rfl) (by kernel_rfl) (by exact fun _ _ _ h => h) (yields_rentryX (by rfl) _ rfl gl (f5 * 7) rfl f (fun V hV => (HK11.out.step_but hV (fun j hj h => h)).ref.range (HK11.out.ref.same f5 f HLK.out))) hH ?_
            try simp only [Act.put, List.setIfInBounds_toArray, List.set_cons_zero, List.set_cons_succ]
            refine Late.Goes.one (i := 3) (by kernel_rfl) (by simp only [List.getElem?_toArray, List.getElem?_cons_succ, List.getElem?_cons_zero]; rfl) (fun K hK => ?_)
            clear hH
            go_simp
            go_at_call 12
            refine (as_any f w11.drew).mono ?_
            rintro e w12 ⟨rfl, hB12⟩
            have HB12 := Lib.hid hB12
            clear hB12
            refine hK.out _ _ ?_ (fun hH => ?_)
            · exact fun _ => HB12.out
            clear hK K
            have hH := hH rfl
            try simp only [Act.put, List.setIfInBounds_toArray, List.set_cons_zero, List.set_cons_succ]
            refine Late.Goes.takeT (i := 11) (v := ?_) (by simp only [List.getElem?_toArray, List.getElem?_cons_succ, List.getElem?_cons_zero]; rfl) (by kernel_rfl) (by kernel_rfl) (by kernel_rfl) (by kernel_rfl) (by kernel_rfl) (by exact fun _ _ _ h => h) (Or.inl ⟨by rfl, ?_⟩) hH ?_
            rotate_left
            · (intro wy hSw; (try dsimp only at hSw); have k0 := HC0.out wy hSw; go_simp; try (with_reducible rfl))
            try simp only [Act.put, List.setIfInBounds_toArray, List.set_cons_zero, List.set_cons_succ]
            refine Late.Goes.takeT (i := 12) (v := ?_) (by simp only [List.getElem?_toArray, List.getElem?_cons_succ, List.getElem?_cons_zero]; rfl) (by kernel_rfl) (by kernel_rfl) (by kernel_rfl) (by kernel_rfl) (by kernel_rfl) (by exact fun _ _ _ h => h) (Or.inl ⟨by rfl, ?_⟩) hH ?_
            rotate_left
            · (intro wy hSw; (try dsimp only at hSw); have k0 := HC0.out wy hSw; go_simp; try (with_reducible rfl))
            try simp only [Act.put, List.setIfInBounds_toArray, List.set_cons_zero, List.set_cons_succ]
            refine Late.Goes.takeT (i := 13) (v := ?_) (by simp only [List.getElem?_toArray, List.getElem?_cons_succ, List.getElem?_cons_zero]; rfl) (by kernel_rfl) (by kernel_rfl) (by kernel_rfl) (by kernel_rfl) (by kernel_rfl) (by exact fun _ _ _ h => h) (Or.inl ⟨by rfl, ?_⟩) hH ?_
            rotate_left
            · (intro wy hSw; (try dsimp only at hSw); have k0 := HC0.out wy hSw; go_simp; try (with_reducible rfl))
            try simp only [Act.put, List.setIfInBounds_toArray, List.set_cons_zero, List.set_cons_succ]
            refine Late.Goes.takeT (i := 14) (v := ?_) (by simp only [List.getElem?_toArray, List.getElem?_cons_succ, List.getElem?_cons_zero]; rfl) (by kernel_rfl) (by kernel_rfl) (by kernel_rfl) (by kernel_rfl) (by kernel_rfl) (by exact fun _ _ _ h => h) (Or.inl ⟨by rfl, ?_⟩) hH ?_
            rotate_left
            · (intro wy hSw; (try dsimp only at hSw); have k0 := HC0.out wy hSw; go_simp; try (with_reducible rfl))
            try simp only [Act.put, List.setIfInBounds_toArray, List.set_cons_zero, List.set_cons_succ]
            refine Late.Goes.takeT (i := 15) (v := ?_) (by simp only [List.getElem?_toArray, List.getElem?_cons_succ, List.getElem?_cons_zero]; rfl) (by kernel_rfl) (by kernel_rfl) (by kernel_rfl) (by kernel_rfl) (by kernel_rfl) (by exact fun _ _ _ h => h) (Or.inl ⟨by rfl, ?_⟩) hH ?_
            rotate_left
            · (intro wy hSw; (try dsimp only at hSw); have k0 := HC0.out wy hSw; go_simp; try (with_reducible rfl))
            try simp only [Act.put, List.setIfInBounds_toArray, List.set_cons_zero, List.set_cons_succ]
            refine Late.Goes.takeT (i := 16) (v := ?_) (by simp only [List.getElem?_toArray, List.getElem?_cons_succ, List.getElem?_cons_zero]; rfl) (by kernel_rfl) (by kernel_rfl) (by kernel_rfl) (by kernel_rfl) (by kernel_rfl) (by exact fun _ _ _ h => h) (Or.inl ⟨by rfl, ?_⟩) hH ?_
            rotate_left
            · (intro wy hSw; (try dsimp only at hSw); have k0 := HC0.out wy hSw; go_simp; try (with_reducible rfl))
            try simp only [Act.put, List.setIfInBounds_toArray, List.set_cons_zero, List.set_cons_succ]
            refine Late.Goes.takeT (i := 17) (v := undef) (by simp only [List.getElem?_toArray, List.getElem?_cons_succ, List.getElem?_cons_zero]; rfl) (by kernel_rfl) (by kernel_rfl) (by kernel_rfl) (by kernel_rfl) (by kernel_rfl) (by exact fun _ _ _ h => h) (Or.inr ⟨by rfl, rfl⟩) hH ?_
            try simp only [Act.put, List.setIfInBounds_toArray, List.set_cons_zero, List.set_cons_succ]
            refine Late.Goes.takeT (i := 18) (v := undef) (by simp only [List.getElem?_toArray, List.getElem?_cons_succ, List.getElem?_cons_zero]; rfl) (by kernel_rfl) (by kernel_rfl) (by kernel_rfl) (by kernel_rfl) (by kernel_rfl) (by exact fun _ _ _ h => h) (Or.inr ⟨by rfl, rfl⟩) hH ?_
            try simp only [Act.put, List.setIfInBounds_toArray, List.set_cons_zero, List.set_cons_succ]
            refine Late.Goes.takeT (i := 19) (v := undef) (by simp only [List.getElem?_toArray, List.getElem?_cons_succ, List.getElem?_cons_zero]; rfl) (by kernel_rfl) (by kernel_rfl) (by kernel_rfl) (by kernel_rfl) (by kernel_rfl) (by exact fun _ _ _ h => h) (Or.inr ⟨by rfl, rfl⟩) hH ?_
            try simp only [Act.put, List.setIfInBounds_toArray, List.set_cons_zero, List.set_cons_succ]
            refine Late.Goes.takeT (i := 20) (v := ?_) (by simp only [List.getElem?_toArray, List.getElem?_cons_succ, List.getElem?_cons_zero]; rfl) (by kernel_rfl) (by kernel_rfl) (by kernel_rfl) (by kernel_rfl) (by kernel_rfl) (by exact fun _ _ _ h => h) (Or.inl ⟨by rfl, ?_⟩) hH ?_
            rotate_left
            · (intro wy hSw; (try dsimp only at hSw); have k0 := HC0.out wy hSw; go_simp; try (with_reducible rfl))
            try simp only [Act.put, List.setIfInBounds_toArray, List.set_cons_zero, List.set_cons_succ]
            refine Late.Goes.takeT (i := 21) (v := ?_) (by simp only [List.getElem?_toArray, List.getElem?_cons_succ, List.getElem?_cons_zero]; rfl) (by kernel_rfl) (by kernel_rfl) (by kernel_rfl) (by kernel_rfl) (by kernel_rfl) (by exact fun _ _ _ h => h) (Or.inl ⟨by rfl, ?_⟩) hH ?_
            rotate_left
            · (intro wy hSw; (try dsimp only at hSw); have k0 := HC0.out wy hSw; go_simp; try (with_reducible rfl))
            try simp only [Act.put, List.setIfInBounds_toArray, List.set_cons_zero, List.set_cons_succ]
            refine Late.Goes.done (by kernel_rfl) ?_ _
            have HK12 := Lib.hid (HK11.out.step_but HB12.out (fun j hj h => h))
            go_wp2_with fail
            go_roundw
            case rel => exact ⟨k + 1, g, T5, gl, gu, X5, m, by omega, by go_num, HK12.out⟩
            case measure => simp [intOf]; omega
        · have HDL := Lib.hid hd
          clear hd
          go_wp2_with (first
            | (refine wpList_load_mid rfl 34 _ rfl ga (o + k * 8) rfl [.bool x.d, .string x.e.key, .int .i64 x.e.seg, .int .i64 x.e.at_, .int .i64 x.e.len, .int .u64 (x.e.ver : Int), .int .u64 (x.e.exp : Int), .int .i64 x.e.size] _ HRG.out Tryd.underlying34 rfl deed_size ?_)
            | (refine wpList_store_mid rfl 34 _ _ rfl wr.heap.size 0 (dcells x).toArray rfl rfl (blk_there0 (Blk.new wr 34 (dcells dzero).toArray) (by rw [dcells_length]; simp [dcells_length])) (by simp only [List.size_toArray, dcells_length]; exact deed_size) (all_oneCell_toArray (dcells_one x)) ?_
               change wpList _ _ _ _ _ ((wr.alloc (.cells (dcells dzero).toArray 34)).setCells wr.heap.size 0 (dcells x))
               obtain ⟨x1, hx1⟩ : ∃ x, x = wr.heap.size := ⟨_, rfl⟩
               rw [← hx1] at HBK HK2 HRE ⊢
               have Hx1 := Lib.hid hx1
               clear hx1
               generalize (wr.alloc (.cells (dcells dzero).toArray 34)).setCells x1 0 (dcells x) = W2 at HBK HK2 HRE ⊢
               have c0 : W2.cell? ⟨x1, 0, none⟩ = some (.bool false) := by rw [← HDL.out]; exact HBK.out.cell 0
               have c1 : W2.cell? ⟨x1, 1, none⟩ = some (.string x.e.key) := HBK.out.cell 1)
            | (refine wpList_load_mid rfl 32 _ rfl x1 1 rfl [.string x.e.key, .int .i64 x.e.seg, .int .i64 x.e.at_, .int .i64 x.e.len, .int .u64 (x.e.ver : Int), .int .u64 (x.e.exp : Int), .int .i64 x.e.size] _ HRE.out Tryd.underlying32 rfl entry_size ?_))
          clear c0 c1 HRG
          have HPC := Lib.hid (kput_any HK2.out.tab x.e hks2 (by omega))
          refine HPC.out.mono ?_
          rintro e w4 ⟨rfl, g4, hA4, hg4, hB4⟩
          have HA4 := Lib.hid hA4
          have HG4 := Lib.hid hg4
          have HR4 := Lib.hid (HK2.out.ref.past HK2.out.tab.blk HK2.out.tab.row hB4)
          have HX4 := Lib.hid (HBK.out.but hB4 (fun e => by
            rcases e with e | e
            · exact HK2.out.tab.blk.ne_ HBK.out (by decide) e.symm
            · exact HK2.out.tab.row.ne_ HBK.out (by decide) e.symm))
          have HB4 := Lib.hid (HK2.out.but.trans hB4 (fun j hj e => by have := HK2.out.lows; omega))
          have HRE4 := Lib.hid (box_deed HX4.out)
          clear hA4 hB4 hg4 HPC HRE
          go_wp2_with (refine wpList_load_mid rfl 32 _ rfl x1 1 rfl [.string x.e.key, .int .i64 x.e.seg, .int .i64 x.e.at_, .int .i64 x.e.len, .int .u64 (x.e.ver : Int), .int .u64 (x.e.exp : Int), .int .i64 x.e.size] _ HRE4.out Tryd.underlying32 rfl entry_size ?_)
          refine (as_any x.e w4).mono ?_
          rintro e w5 ⟨rfl, hB5⟩
          have HA5 := Lib.hid (HA4.out.but hB5 (fun h => h) (fun h => h))
          have HR5 := Lib.hid (HR4.out.but hB5 (fun h => h) (fun h => h) (fun h => h))
          have HX5 := Lib.hid (HX4.out.but hB5 (fun h => h))
          have HB5 := Lib.hid (HB4.out.trans hB5 (fun j hj h => h))
          have HRP := Lib.hid (rput_any HR5.out HK2.out.tab.good (by have := HA5.out.few; omega) x.e hks2)
          clear hB5 HA4 HR4 HX4 HB4 HRE4
          go_wp2_with fail
          refine HRP.out.mono ?_
          rintro e w6 ⟨rfl, gl5, gu5, X5, m5, hR6, hgl, hgu, hB6⟩
          have HK5 := Lib.hid (show PR W p rp (k + 1) w6 g4 (Key.put T x.e) gl5 gu5 X5 m5 ∧ Blk w6 x1 34 (dcells x).toArray from ⟨⟨HA5.out.past HR5.out hB6, hR6, HB5.out.trans hB6 (fun j hj e => by have := HK2.out.lows; omega), HK2.out.lows.1, by have := HG4.out; have := HK2.out.lows; have := HK2.out.but.size; omega, HK2.out.lows.2.2.1, by have := HK2.out.lows; have := HB5.out.size; omega, by have := HK2.out.lows; have := HB5.out.size; omega⟩, HX5.out.but hB6 (fun e => by
            rcases e with e | e | e
            · exact HR5.out.blk.ne_ HX5.out (by decide) e.symm
            · exact HR5.out.lrow.ne_ HX5.out (by decide) e.symm
            · exact HR5.out.urow.ne_ HX5.out (by decide) e.symm)⟩)
          clear hR6 hgl hgu hB6 HRP HA5 HR5 HX5 HB5 HK2 HBK HG4
          have c2 : w6.cell? ⟨x1, 1, none⟩ = some (.string x.e.key) := HK5.out.2.cell 1
          obtain ⟨T5, hT5⟩ : ∃ T5, T5 = Key.put T x.e := ⟨_, rfl⟩
          rw [← hT5] at HK5
          clear hT5
          have HFD := Lib.hid (rfind_any HK5.out.1.ref HK5.out.1.tab.good.free x.e.key hks2)
          have hfl := find_lt (show 0 < T5.length by have := HK5.out.1.tab.lt; omega) x.e.key
          rw [HK5.out.1.ref.len] at hfl
          obtain ⟨f5, hf5⟩ : ∃ f, f = find T5 x.e.key := ⟨_, rfl⟩
          obtain ⟨q, hq⟩ : ∃ q, q = ask T5 x.e.key := ⟨_, rfl⟩
          have HLK := Lib.hid (show look T5 f5 = q by rw [hf5, hq]; rfl)
          have HGT := Lib.hid (kget2_any HK5.out.1.tab x.e.key hks2 q hq.symm)
          rw [← hf5] at HFD hfl
          obtain ⟨bq, hbq⟩ : ∃ b, b = q.isSome := ⟨_, rfl⟩
          obtain ⟨f, hf⟩ : ∃ f, f = ent q := ⟨_, rfl⟩
          rw [← hbq, ← hf] at HGT
          have HBQ := Lib.hid hbq
          have HF := Lib.hid hf
          have l1 := HK5.out.1.ref.few
          obtain ⟨l1, l2⟩ := l1
          clear hf5 hq hbq hf
          go_wp2_with fail
          refine HFD.out.mono ?_
          rintro e w' ⟨rfl, rfl⟩
          go_wp2_with fail
          refine HGT.out.mono ?_
          rintro e w7 ⟨rfl, hB7⟩
          have HK7 := Lib.hid (HK5.out.1.step_but hB7 (fun j hj h => h))
          clear hB7 HGT HFD HK5 c2
          have HKB := Lib.hid (show PR W p rp (k + 1) ((w7.alloc (.cells (ecells zero).toArray 32)).setCells w7.heap.size 0 (ecells f)) g4 T5 gl5 gu5 X5 m5 ∧ Blk ((w7.alloc (.cells (ecells zero).toArray 32)).setCells w7.heap.size 0 (ecells f)) w7.heap.size 32 (ecells f).toArray from ⟨HK7.out.step_but (((But.refl (fun k => k = w7.heap.size) w7).alloc _).trans' (but_setCells _ _ _ _)) (fun j hj e => by omega), blk_set0 (Blk.new _ _ _) (by rw [ecells_length, ecells_length])⟩)
          go_wp2_with (first
            | (refine wpList_store_mid rfl 32 _ _ rfl w7.heap.size 0 (ecells f).toArray rfl rfl (blk_there0 (Blk.new w7 32 (ecells zero).toArray) (by rw [ecells_length]; simp [ecells_length])) (by simp only [List.size_toArray, ecells_length]; exact entry_size) (all_oneCell_toArray (ecells_one f)) ?_
               change wpList _ _ _ _ _ ((w7.alloc (.cells (ecells zero).toArray 32)).setCells w7.heap.size 0 (ecells f))
               obtain ⟨x2, hx2⟩ : ∃ x, x = w7.heap.size := ⟨_, rfl⟩
               rw [← hx2] at HKB ⊢
               have Hx2 := Lib.hid hx2
               clear hx2
               generalize (w7.alloc (.cells (ecells zero).toArray 32)).setCells x2 0 (ecells f) = W8 at HKB ⊢
               have r1 : W8.cell? ⟨rp, 1, none⟩ = some (.slice (some ⟨gu5, 0, none⟩) m5 m5) := HKB.out.1.ref.blk.cell 1
               have u5 : W8.cell? ⟨gu5, f5, none⟩ = some (.bool bq) := by rw [HKB.out.1.ref.used hfl, HLK.out, HBQ.out]))
          have HLN := Lib.hid (klen_any HKB.out.1.tab)
          refine HLN.out.mono ?_
          rintro e w' ⟨rfl, rfl⟩
          have HRL := Lib.hid (rlen_any HKB.out.1.ref)
          clear r1 u5
          go_wp2_with fail
          refine HRL.out.mono ?_
          rintro e w' ⟨rfl, rfl⟩
          have HPL := Lib.hid (kplaces_any HKB.out.1.tab (HC.out.but HKB.out.1.but (fun _ _ h => h)))
          rw [HKB.out.1.ref.len] at HPL
          clear HLN HRL
          go_wp2_with fail
          refine HPL.out.mono ?_
          rintro e w9 ⟨rfl, hP9, hB9⟩
          have HK9 := Lib.hid (HKB.out.1.step_but hB9 (fun j hj h => h))
          have HX9 := Lib.hid (HKB.out.2.but hB9 (fun h => h))
          have HP9 := Lib.hid hP9
          have HRP9 := Lib.hid (rplaces_any HK9.out.ref (HC.out.but HK9.out.but (fun _ _ h => h)))
          obtain ⟨b9, hb9⟩ : ∃ b, b = W8.heap.size := ⟨_, rfl⟩
          rw [← hb9] at HP9 ⊢
          clear hP9 hB9 HPL HKB hb9
          go_wp2_with fail
          refine HRP9.out.mono ?_
          rintro e w10 ⟨g10, c10, rfl, hg10, hc10, hB10⟩
          have HTX := Lib.hid (rtexts_any (w := w10) (n := m5) b9 g10 m5 c10 (fun j => txt (look T5 j)) (fun j hj => by rw [(HP9.out.but hB10 (fun h => h)).cell j, List.getElem?_toArray, texts_get T5 _ _ j hj, if_pos hj]) hc10 l2 (by have := HP9.out.lt; have := hB10.size; omega) hg10)
          have HK10 := Lib.hid (HK9.out.step_but hB10 (fun j hj h => h))
          have HX10 := Lib.hid (HX9.out.but hB10 (fun h => h))
          clear hg10 hc10 hB10 HRP9 HK9 HX9 HP9
          go_wp2_with fail
          refine HTX.out.mono ?_
          rintro e w11 ⟨rfl, hB11⟩
          have HK11 := Lib.hid (HK10.out.step_but (hB11.trans ((But.refl (fun _ => False) w11).drew) (fun j hj h => h)) (fun j hj h => h))
          have HX11 := Lib.hid (HX10.out.but (hB11.trans ((But.refl (fun _ => False) w11).drew) (fun j hj h => h)) (fun h => h))
          clear hB11 HTX HK10 HX10
          go_wp2_with fail
          have HC0 := Lib.hid (fun V (hV : But (fun _ => False) w11.drew V) => show V.cell? ⟨rp, 0, none⟩ = some (.slice (some ⟨gl5, 0, none⟩) m5 m5) from (HK11.out.step_but hV (fun j hj h => h)).ref.blk.cell 0)
          have hfi : (f5 : Int) < (m5 : Int) := by omega
          cases q with
          | none =>
            obtain rfl : bq = false := HBQ.out
            obtain rfl : f = zero := HF.out
            have zn : ∀ w, (binOp .neq 32 (.agg #[.string ⟨#[]⟩, .int .i64 0, .int .i64 0, .int .i64 0, .int .u64 0, .int .u64 0, .int .i64 0]) (.agg #[.string ⟨#[]⟩, .int .i64 0, .int .i64 0, .int .i64 0, .int .u64 0, .int .u64 0, .int .i64 0])).run Tryd.prog w = .ok (.bool false) w := fun w => by
              have h := ent_neq zero zero w
              rw [decide_eq_true rfl] at h
              exact h
            refine Late.region_goes (fun V => V = w11.drew) (fun _ => false) (by kernel_rfl) ?_ (fun hH => ?_)
            · rfl
            refine Late.Goes.takeT (i := 0) (v := ?_) (by simp only [List.getElem?_toArray, List.getElem?_cons_succ, List.getElem?_cons_zero]; rfl) (by kernel_rfl) (by kernel_rfl) (by kernel_rfl) (by kernel_rfl) (by kernel_rfl) (by exact fun _ _ _ h => h) (Or.inl ⟨by rfl, ?_⟩) hH ?_
            rotate_left
            · (intro wy hSw; (try dsimp only at hSw); skip; go_simp; try (with_reducible rfl))
            try simp only [Act.put, List.setIfInBounds_toArray, List.set_cons_zero, List.set_cons_succ]
            refine Late.Goes.takeT (i := 1) (v := ?_) (by simp only [List.getElem?_toArray, List.getElem?_cons_succ, List.getElem?_cons_zero]; rfl) (by kernel_rfl) (by kernel_rfl) (by kernel_rfl) (by kernel_rfl) (by kernel_rfl) (by exact fun _ _ _ h => h) (Or.inl ⟨by rfl, ?_⟩) hH ?_
            rotate_left
            · (intro wy hSw; (try dsimp only at hSw); skip; go_simp; try (with_reducible rfl))
            try simp only [Act.put, List.setIfInBounds_toArray, List.set_cons_zero, List.set_cons_succ]
            refine Late.Goes.takeT (i := 2) (v := undef) (by simp only [List.getElem?_toArray, List.getElem?_cons_succ, List.getElem?_cons_zero]; rfl) (by kernel_rfl) (by kernel_rfl) (by kernel_rfl) (by kernel_rfl) (by kernel_rfl) (by exact fun _ _ _ h => h) (Or.inr ⟨by rfl, rfl⟩) hH ?_
            try simp only [Act.put, List.setIfInBounds_toArray, List.set_cons_zero, List.set_cons_succ]
            refine Late.Goes.takeT (i := 3) (v := undef) (by simp only [List.getElem?_toArray, List.getElem?_cons_succ, List.getElem?_cons_zero]; rfl) (by kernel_rfl) (by kernel_rfl) (by kernel_rfl) (by kernel_rfl) (by kernel_rfl) (by exact fun _ _ _ h => h) (Or.inr ⟨by rfl, rfl⟩) hH ?_
            try simp only [Act.put, List.setIfInBounds_toArray, List.set_cons_zero, List.set_cons_succ]
            refine Late.Goes.takeT (i := 4) (v := undef) (by simp only [List.getElem?_toArray, List.getElem?_cons_succ, List.getElem?_cons_zero]; rfl) (by kernel_rfl) (by kernel_rfl) (by kernel_rfl) (by kernel_rfl) (by kernel_rfl) (by exact fun _ _ _ h => h) (Or.inr ⟨by rfl, rfl⟩) hH ?_
            try simp only [Act.put, List.setIfInBounds_toArray, List.set_cons_zero, List.set_cons_succ]
            refine Late.Goes.takeT (i := 5) (v := undef) (by simp only [List.getElem?_toArray, List.getElem?_cons_succ, List.getElem?_cons_zero]; rfl) (by kernel_rfl) (by kernel_rfl) (by kernel_rfl) (by kernel_rfl) (by kernel_rfl) (by exact fun _ _ _ h => h) (Or.inr ⟨by rfl, rfl⟩) hH ?_
            try simp only [Act.put, List.setIfInBounds_toArray, List.set_cons_zero, List.set_cons_succ]
            refine Late.Goes.takeT (i := 6) (v := undef) (by simp only [List.getElem?_toArray, List.getElem?_cons_succ, List.getElem?_cons_zero]; rfl) (by kernel_rfl) (by kernel_rfl) (by kernel_rfl) (by kernel_rfl) (by kernel_rfl) (by exact fun _ _ _ h => h) (Or.inr ⟨by rfl, rfl⟩) hH ?_
            try simp only [Act.put, List.setIfInBounds_toArray, List.set_cons_zero, List.set_cons_succ]
            refine Late.Goes.takeT (i := 7) (v := undef) (by simp only [List.getElem?_toArray, List.getElem?_cons_succ, List.getElem?_cons_zero]; rfl) (by kernel_rfl) (by kernel_rfl) (by kernel_rfl) (by kernel_rfl) (by kernel_rfl) (by exact fun _ _ _ h => h) (Or.inr ⟨by rfl, rfl⟩) hH ?_
            try simp only [Act.put, List.setIfInBounds_toArray, List.set_cons_zero, List.set_cons_succ]
            refine Late.Goes.takeT (i := 8) (v := undef) (by simp only [List.getElem?_toArray, List.getElem?_cons_succ, List.getElem?_cons_zero]; rfl) (by kernel_rfl) (by kernel_rfl) (by kernel_rfl) (by kernel_rfl) (by kernel_rfl) (by exact fun _ _ _ h => h) (Or.inr ⟨by rfl, rfl⟩) hH ?_
            try simp only [Act.put, List.setIfInBounds_toArray, List.set_cons_zero, List.set_cons_succ]
            refine Late.Goes.takeT (i := 9) (v := undef) (by simp only [List.getElem?_toArray, List.getElem?_cons_succ, List.getElem?_cons_zero]; rfl) (by kernel_rfl) (by kernel_rfl) (by kernel_rfl) (by kernel_rfl) (by kernel_rfl) (by exact fun _ _ _ h => h) (Or.inr ⟨by rfl, rfl⟩) hH ?_
            try simp only [Act.put, List.setIfInBounds_toArray, List.set_cons_zero, List.set_cons_succ]
            refine Late.Goes.takeT (i := 10) (v := undef) (by simp only [List.getElem?_toArray, List.getElem?_cons_succ, List.getElem?_cons_zero]; rfl) (by kernel_rfl) (by kernel_rfl) (by kernel_rfl) (by kernel_rfl) (by kernel_rfl) (by exact fun _ _ _ h => h) (Or.inr ⟨by rfl, rfl⟩) hH ?_
            try simp only [Act.put, List.setIfInBounds_toArray, List.set_cons_zero, List.set_cons_succ]
            refine Late.Goes.takeT (i := 11) (v := undef) (by simp only [List.getElem?_toArray, List.getElem?_cons_succ, List.getElem?_cons_zero]; rfl) (by kernel_rfl) (by kernel_rfl) (by kernel_rfl) (by kernel_rfl) (by kernel_rfl) (by exact fun _ _ _ h => h) (Or.inr ⟨by rfl, rfl⟩) hH ?_
            try simp only [Act.put, List.setIfInBounds_toArray, List.set_cons_zero, List.set_cons_succ]
            refine Late.Goes.takeT (i := 12) (v := ?_) (by simp only [List.getElem?_toArray, List.getElem?_cons_succ, List.getElem?_cons_zero]; rfl) (by kernel_rfl) (by kernel_rfl) (by kernel_rfl) (by kernel_rfl) (by kernel_rfl) (by exact fun _ _ _ h => h) (Or.inl ⟨by rfl, ?_⟩) hH ?_
            rotate_left
            · (intro wy hSw; (try dsimp only at hSw); skip; go_simp; try (with_reducible rfl))
            try simp only [Act.put, List.setIfInBounds_toArray, List.set_cons_zero, List.set_cons_succ]
            refine Late.Goes.takeT (i := 13) (v := ?_) (by simp only [List.getElem?_toArray, List.getElem?_cons_succ, List.getElem?_cons_zero]; rfl) (by kernel_rfl) (by kernel_rfl) (by kernel_rfl) (by kernel_rfl) (by kernel_rfl) (by exact fun _ _ _ h => h) (Or.inl ⟨by rfl, ?_⟩) hH ?_
            rotate_left
            · (intro wy hSw; (try dsimp only at hSw); skip; go_simp; try (with_reducible rfl))
            try simp only [Act.put, List.setIfInBounds_toArray, List.set_cons_zero, List.set_cons_succ]
            refine Late.Goes.takeT (i := 14) (v := ?_) (by simp only [List.getElem?_toArray, List.getElem?_cons_succ, List.getElem?_cons_zero]; rfl) (by kernel_rfl) (by kernel_rfl) (by kernel_rfl) (by kernel_rfl) (by kernel_rfl) (by exact fun _ _ _ h => h) (Or.inl ⟨by rfl, ?_⟩) hH ?_
            rotate_left
            · (intro wy hSw; (try dsimp only at hSw); skip; go_simp; try (with_reducible rfl))
            try simp only [Act.put, List.setIfInBounds_toArray, List.set_cons_zero, List.set_cons_succ]
            refine Late.Goes.takeT (i := 15) (v := ?_) (by simp only [List.getElem?_toArray, List.getElem?_cons_succ, List.getElem?_cons_zero]; rfl) (by kernel_rfl) (by kernel_rfl) (by kernel_rfl) (by kernel_rfl) (by kernel_rfl) (by exact fun _ _ _ h => h) (Or.inl ⟨by rfl, ?_⟩) hH ?_
            rotate_left
            · (intro wy hSw; (try dsimp only at hSw); skip; go_simp; try (with_reducible rfl))
            try simp only [Act.put, List.setIfInBounds_toArray, List.set_cons_zero, List.set_cons_succ]
            refine Late.Goes.takeT (i := 16) (v := ?_) (by simp only [List.getElem?_toArray, List.getElem?_cons_succ, List.getElem?_cons_zero]; rfl) (by kernel_rfl) (by kernel_rfl) (by kernel_rfl) (by kernel_rfl) (by kernel_rfl) (by exact fun _ _ _ h => h) (Or.inl ⟨by rfl, ?_⟩) hH ?_
            rotate_left
            · (intro wy hSw; (try dsimp only at hSw); skip; go_simp; try (with_reducible rfl))
            try simp only [Act.put, List.setIfInBounds_toArray, List.set_cons_zero, List.set_cons_succ]
            refine Late.Goes.takeT (i := 17) (v := _) (by simp only [List.getElem?_toArray, List.getElem?_cons_succ, List.getElem?_cons_zero]; rfl) (by kernel_rfl) (by kernel_rfl) (by kernel_rfl) (by kernel_rfl) (by kernel_rfl) (by exact fun _ _ _ h => h) (yields_zero (by rfl) _ rfl x2 0 rfl (fun V hV => by rw [hV]; exact ent_range HX11.out)) hH ?_
            try simp only [Act.put, List.setIfInBounds_toArray, List.set_cons_zero, List.set_cons_succ]
            refine Late.Goes.takeT (i := 18) (v := ?_) (by simp only [List.getElem?_toArray, List.getElem?_cons_succ, List.getElem?_cons_zero]; rfl) (by kernel_rfl) (by kernel_rfl) (by kernel_rfl) (by kernel_rfl) (by kernel_rfl) (by exact fun _ _ _ h => h) (Or.inl ⟨by rfl, ?_⟩) hH ?_
            rotate_left
            · (intro wy hSw; (try dsimp only at hSw); skip; go_simp; try (with_reducible rfl))
            try simp only [Act.put, List.setIfInBounds_toArray, List.set_cons_zero, List.set_cons_succ]
            refine Late.Goes.takeT (i := 19) (v := ?_) (by simp only [List.getElem?_toArray, List.getElem?_cons_succ, List.getElem?_cons_zero]; rfl) (by kernel_rfl) (by kernel_rfl) (by kernel_rfl) (by kernel_rfl) (by kernel_rfl) (by exact fun _ _ _ h => h) (Or.inl ⟨by rfl, ?_⟩) hH ?_
            rotate_left
            · (intro wy hSw; (try dsimp only at hSw); skip; go_simp; try (with_reducible rfl))
            try simp only [Act.put, List.setIfInBounds_toArray, List.set_cons_zero, List.set_cons_succ]
            refine Late.Goes.takeT (i := 20) (v := ?_) (by simp only [List.getElem?_toArray, List.getElem?_cons_succ, List.getElem?_cons_zero]; rfl) (by kernel_rfl) (by kernel_rfl) (by kernel_rfl) (by kernel_rfl) (by kernel_rfl) (by exact fun _ _ _ h => h) (Or.inl ⟨by rfl, ?_⟩) hH ?_
            rotate_left
            · (intro wy hSw; (try dsimp only at hSw); skip; go_simp; try (with_reducible rfl))
            try simp only [Act.put, List.setIfInBounds_toArray, List.set_cons_zero, List.set_cons_succ]
            refine Late.Goes.takeT (i := 21) (v := ?_) (by simp only [List.getElem?_toArray, List.getElem?_cons_succ, List.getElem?_cons_zero]; rfl) (by kernel_rfl) (by kernel_rfl) (by kernel_rfl) (by kernel_rfl) (by kernel_rfl) (by exact fun _ _ _ h => h) (Or.inl ⟨by rfl, ?_⟩) hH ?_
            rotate_left
            · (intro wy hSw; (try dsimp only at hSw); skip; go_simp; try (with_reducible rfl))
            try simp only [Act.put, List.setIfInBounds_toArray, List.set_cons_zero, List.set_cons_succ]
            refine Late.Goes.done (by kernel_rfl) ?_ _
            go_wp2_with fail
            go_roundw
            case rel => exact ⟨k + 1, g4, T5, gl5, gu5, X5, m5, by omega, by go_num, HK11.out⟩
            case measure => simp [intOf]; omega
          | some e5 =>
            obtain rfl : bq = true := HBQ.out
            obtain rfl : f = e5 := HF.out
            have sn : ∀ w, (binOp .neq 38 (.agg #[.string f.key, .int .i64 f.seg, .int .i64 f.at_, .int .i64 f.len, .int .u64 (f.ver : Int), .int .u64 (f.exp : Int), .int .i64 f.size]) (.agg #[.string f.key, .int .i64 f.seg, .int .i64 f.at_, .int .i64 f.len, .int .u64 (f.ver : Int), .int .u64 (f.exp : Int), .int .i64 f.size])).run Tryd.prog w = .ok (.bool false) w := fun w => by
              have h := rent_neq f f w
              rw [decide_eq_true rfl] at h
              exact h
            refine Late.region_goes (fun V => But (fun _ => False) w11.drew V) (fun _ => false) (by kernel_rfl) ?_ (fun hH => ?_)
            · exact But.refl _ _
            refine Late.Goes.takeT (i := 0) (v := ?_) (by simp only [List.getElem?_toArray, List.getElem?_cons_succ, List.getElem?_cons_zero]; rfl) (by kernel_rfl) (by kernel_rfl) (by kernel_rfl) (by kernel_rfl) (by kernel_rfl) (by exact fun _ _ _ h => h) (Or.inl ⟨by rfl, ?_⟩) hH ?_
            rotate_left
            · (intro wy hSw; (try dsimp only at hSw); have k0 := HC0.out wy hSw; go_simp; try (with_reducible rfl))
            try simp only [Act.put, List.setIfInBounds_toArray, List.set_cons_zero, List.set_cons_succ]
            refine Late.Goes.takeT (i := 1) (v := ?_) (by simp only [List.getElem?_toArray, List.getElem?_cons_succ, List.getElem?_cons_zero]; rfl) (by kernel_rfl) (by kernel_rfl) (by kernel_rfl) (by kernel_rfl) (by kernel_rfl) (by exact fun _ _ _ h => h) (Or.inl ⟨by rfl, ?_⟩) hH ?_
            rotate_left
            · (intro wy hSw; (try dsimp only at hSw); have k0 := HC0.out wy hSw; go_simp; try (with_reducible rfl))
            try simp only [Act.put, List.setIfInBounds_toArray, List.set_cons_zero, List.set_cons_succ]
            refine Late.Goes.takeT (i := 2) (v := _) (by simp only [List.getElem?_toArray, List.getElem?_cons_succ, List.getElem?_cons_zero]; rfl) (by kernel_rfl) (by kernel_rfl) (by kernel_rfl) (by kernel_rfl) (by kernel_rfl) (by exact fun _ _ _ h => h) (yields_entryX (by rfl) _ rfl x2 0 rfl f (fun V hV => ent_range (HX11.out.but hV (fun h => h)))) hH ?_
            try simp only [Act.put, List.setIfInBounds_toArray, List.set_cons_zero, List.set_cons_succ]
            refine Late.Goes.takeT (i := 4) (v := ?_) (by simp only [List.getElem?_toArray, List.getElem?_cons_succ, List.getElem?_cons_zero]; rfl) (by kernel_rfl) (by kernel_rfl) (by kernel_rfl) (by kernel_rfl) (by kernel_rfl) (by exact fun _ _ _ h => h) (Or.inl ⟨by rfl, ?_⟩) hH ?_
            rotate_left
            · (intro wy hSw; (try dsimp only at hSw); have k0 := HC0.out wy hSw; go_simp; try (with_reducible rfl))
            try simp only [Act.put, List.setIfInBounds_toArray, List.set_cons_zero, List.set_cons_succ]
            refine Late.Goes.takeT (i := 5) (v := ?_) (by simp only [List.getElem?_toArray, List.getElem?_cons_succ, List.getElem?_cons_zero]; rfl) (by kernel_rfl) (by kernel_rfl) (by kernel_rfl) (by kernel_rfl) (by kernel_rfl) (by exact fun _ _ _ h => h) (Or.inl ⟨by rfl, ?_⟩) hH ?_
            rotate_left
            · (intro wy hSw; (try dsimp only at hSw); have k0 := HC0.out wy hSw; go_simp; try (with_reducible rfl))
            try simp only [Act.put, List.setIfInBounds_toArray, List.set_cons_zero, List.set_cons_succ]
            refine Late.Goes.takeT (i := 6) (v := ?_) (by simp only [List.getElem?_toArray, List.getElem?_cons_succ, List.getElem?_cons_zero]; rfl) (by kernel_rfl) (by kernel_rfl) (by kernel_rfl) (by kernel_rfl) (by kernel_rfl) (by exact fun _ _ _ h => h) (Or.inl ⟨by rfl, ?_⟩) hH ?_
            rotate_left
            · (intro wy hSw; (try dsimp only at hSw); have k0 := HC0.out wy hSw; go_simp; try (with_reducible rfl))
            try simp only [Act.put, List.setIfInBounds_toArray, List.set_cons_zero, List.set_cons_succ]
            refine Late.Goes.takeT (i := 7) (v := ?_) (by simp only [List.getElem?_toArray, List.getElem?_cons_succ, List.getElem?_cons_zero]; rfl) (by kernel_rfl) (by kernel_rfl) (by kernel_rfl) (by kernel_rfl) (by kernel_rfl) (by exact fun _ _ _ h => h) (Or.inl ⟨by rfl, ?_⟩) hH ?_
            rotate_left
            · (intro wy hSw; (try dsimp only at hSw); have k0 := HC0.out wy hSw; go_simp; try (with_reducible rfl))
            try simp only [Act.put, List.setIfInBounds_toArray, List.set_cons_zero, List.set_cons_succ]
            refine Late.Goes.takeT (i := 8) (v := ?_) (by simp only [List.getElem?_toArray, List.getElem?_cons_succ, List.getElem?_cons_zero]; rfl) (by kernel_rfl) (by kernel_rfl) (by kernel_rfl) (by kernel_rfl) (by kernel_rfl) (by exact fun _ _ _ h => h) (Or.inl ⟨by rfl, ?_⟩) hH ?_
            rotate_left
            · (intro wy hSw; (try dsimp only at hSw); have k0 := HC0.out wy hSw; go_simp; try (with_reducible rfl))
            try simp only [Act.put, List.setIfInBounds_toArray, List.set_cons_zero, List.set_cons_succ]
            refine Late.Goes.takeT (i := 9) (v := ?_) (by simp only [List.getElem?_toArray, List.getElem?_cons_succ, List.getElem?_cons_zero]; rfl) (by kernel_rfl) (by kernel_rfl) (by kernel_rfl) (by kernel_rfl) (by kernel_rfl) (by exact fun _ _ _ h => h) (Or.inl ⟨by rfl, ?_⟩) hH ?_
            rotate_left
            · (intro wy hSw; (try dsimp only at hSw); have k0 := HC0.out wy hSw; go_simp; try (with_reducible rfl))
            try simp only [Act.put, List.setIfInBounds_toArray, List.set_cons_zero, List.set_cons_succ]
            refine Late.Goes.takeT (i := 10) (v := _) (by simp only [List.getElem?_toArray, List.getElem?_cons_succ, List.getElem?_cons_zero]; rfl) (by kernel_rfl) (by kernel_rfl) (by kernel_rfl) (by kernel_rfl) (by kernel_rfl) (by exact fun _ _ _ h => h) (yields_rentryX (by rfl) _ rfl gl5 (f5 * 7) rfl f (fun V hV => (HK11.out.step_but hV (fun j hj h => h)).ref.range (HK11.out.ref.same f5 f HLK.out))) hH ?_
            try simp only [Act.put, List.setIfInBounds_toArray, List.set_cons_zero, List.set_cons_succ]
            refine Late.Goes.one (i := 3) (by kernel_rfl) (by simp only [List.getElem?_toArray, List.getElem?_cons_succ, List.getElem?_cons_zero]; rfl) (fun K hK => ?_)
            clear hH
            go_simp
            go_at_call 12
            refine (as_any f w11.drew).mono ?_
            rintro e w12 ⟨rfl, hB12⟩
            have HB12 := Lib.hid hB12
            clear hB12
            refine hK.out _ _ ?_ (fun hH => ?_)
            · exact fun _ => HB12.out
            clear hK K
            have hH := hH rfl
            try simp only [Act.put, List.setIfInBounds_toArray, List.set_cons_zero, List.set_cons_succ]
            refine Late.Goes.takeT (i := 11) (v := ?_) (by simp only [List.getElem?_toArray, List.getElem?_cons_succ, List.getElem?_cons_zero]; rfl) (by kernel_rfl) (by kernel_rfl) (by kernel_rfl) (by kernel_rfl) (by kernel_rfl) (by exact fun _ _ _ h => h) (Or.inl ⟨by rfl, ?_⟩) hH ?_
            rotate_left
            · (intro wy hSw; (try dsimp only at hSw); have k0 := HC0.out wy hSw; go_simp; try (with_reducible rfl))
            try simp only [Act.put, List.setIfInBounds_toArray, List.set_cons_zero, List.set_cons_succ]
            refine Late.Goes.takeT (i := 12) (v := ?_) (by simp only [List.getElem?_toArray, List.getElem?_cons_succ, List.getElem?_cons_zero]; rfl) (by kernel_rfl) (by kernel_rfl) (by kernel_rfl) (by kernel_rfl) (by kernel_rfl) (by exact fun _ _ _ h => h) (Or.inl ⟨by rfl, ?_⟩) hH ?_
            rotate_left
            · (intro wy hSw; (try dsimp only at hSw); have k0 := HC0.out wy hSw; go_simp; try (with_reducible rfl))
            try simp only [Act.put, List.setIfInBounds_toArray, List.set_cons_zero, List.set_cons_succ]
            refine Late.Goes.takeT (i := 13) (v := ?_) (by simp only [List.getElem?_toArray, List.getElem?_cons_succ, List.getElem?_cons_zero]; rfl) (by kernel_rfl) (by kernel_rfl) (by kernel_rfl) (by kernel_rfl) (by kernel_rfl) (by exact fun _ _ _ h => h) (Or.inl ⟨by rfl, ?_⟩) hH ?_
            rotate_left
            · (intro wy hSw; (try dsimp only at hSw); have k0 := HC0.out wy hSw; go_simp; try (with_reducible rfl))
            try simp only [Act.put, List.setIfInBounds_toArray, List.set_cons_zero, List.set_cons_succ]
            refine Late.Goes.takeT (i := 14) (v := ?_) (by simp only [List.getElem?_toArray, List.getElem?_cons_succ, List.getElem?_cons_zero]; rfl) (by kernel_rfl) (by kernel_rfl) (by kernel_rfl) (by kernel_rfl) (by kernel_rfl) (by exact fun _ _ _ h => h) (Or.inl ⟨by rfl, ?_⟩) hH ?_
            rotate_left
            · (intro wy hSw; (try dsimp only at hSw); have k0 := HC0.out wy hSw; go_simp; try (with_reducible rfl))
            try simp only [Act.put, List.setIfInBounds_toArray, List.set_cons_zero, List.set_cons_succ]
            refine Late.Goes.takeT (i := 15) (v := ?_) (by simp only [List.getElem?_toArray, List.getElem?_cons_succ, List.getElem?_cons_zero]; rfl) (by kernel_rfl) (by kernel_rfl) (by kernel_rfl) (by kernel_rfl) (by kernel_rfl) (by exact fun _ _ _ h => h) (Or.inl ⟨by rfl, ?_⟩) hH ?_
            rotate_left
            · (intro wy hSw; (try dsimp only at hSw); have k0 := HC0.out wy hSw; go_simp; try (with_reducible rfl))
            try simp only [Act.put, List.setIfInBounds_toArray, List.set_cons_zero, List.set_cons_succ]
            refine Late.Goes.takeT (i := 16) (v := ?_) (by simp only [List.getElem?_toArray, List.getElem?_cons_succ, List.getElem?_cons_zero]; rfl) (by kernel_rfl) (by kernel_rfl) (by kernel_rfl) (by kernel_rfl) (by kernel_rfl) (by exact fun _ _ _ h => h) (Or.inl ⟨by rfl, ?_⟩) hH ?_
            rotate_left
            · (intro wy hSw; (try dsimp only at hSw); have k0 := HC0.out wy hSw; go_simp; try (with_reducible rfl))
            try simp only [Act.put, List.setIfInBounds_toArray, List.set_cons_zero, List.set_cons_succ]
            refine Late.Goes.takeT (i := 17) (v := undef) (by simp only [List.getElem?_toArray, List.getElem?_cons_succ, List.getElem?_cons_zero]; rfl) (by kernel_rfl) (by kernel_rfl) (by kernel_rfl) (by kernel_rfl) (by kernel_rfl) (by exact fun _ _ _ h => h) (Or.inr ⟨by rfl, rfl⟩) hH ?_
            try simp only [Act.put, List.setIfInBounds_toArray, List.set_cons_zero, List.set_cons_succ]
            refine Late.Goes.takeT (i := 18) (v := undef) (by simp only [List.getElem?_toArray, List.getElem?_cons_succ, List.getElem?_cons_zero]; rfl) (by kernel_rfl) (by kernel_rfl) (by kernel_rfl) (by kernel_rfl) (by kernel_rfl) (by exact fun _ _ _ h => h) (Or.inr ⟨by rfl, rfl⟩) hH ?_
            try simp only [Act.put, List.setIfInBounds_toArray, List.set_cons_zero, List.set_cons_succ]
            refine Late.Goes.takeT (i := 19) (v := undef) (by simp only [List.getElem?_toArray, List.getElem?_cons_succ, List.getElem?_cons_zero]; rfl) (by kernel_rfl) (by kernel_rfl) (by kernel_rfl) (by kernel_rfl) (by kernel_rfl) (by exact fun _ _ _ h => h) (Or.inr ⟨by rfl, rfl⟩) hH ?_
            try simp only [Act.put, List.setIfInBounds_toArray, List.set_cons_zero, List.set_cons_succ]
            refine Late.Goes.takeT (i := 20) (v := ?_) (by simp only [List.getElem?_toArray, List.getElem?_cons_succ, List.getElem?_cons_zero]; rfl) (by kernel_rfl) (by kernel_rfl) (by kernel_rfl) (by kernel_rfl) (by kernel_rfl) (by exact fun _ _ _ h => h) (Or.inl ⟨by rfl, ?_⟩) hH ?_
            rotate_left
            · (intro wy hSw; (try dsimp only at hSw); have k0 := HC0.out wy hSw; go_simp; try (with_reducible rfl))
            try simp only [Act.put, List.setIfInBounds_toArray, List.set_cons_zero, List.set_cons_succ]
            refine Late.Goes.takeT (i := 21) (v := ?_) (by simp only [List.getElem?_toArray, List.getElem?_cons_succ, List.getElem?_cons_zero]; rfl) (by kernel_rfl) (by kernel_rfl) (by kernel_rfl) (by kernel_rfl) (by kernel_rfl) (by exact fun _ _ _ h => h) (Or.inl ⟨by rfl, ?_⟩) hH ?_
            rotate_left
            · (intro wy hSw; (try dsimp only at hSw); have k0 := HC0.out wy hSw; go_simp; try (with_reducible rfl))
            try simp only [Act.put, List.setIfInBounds_toArray, List.set_cons_zero, List.set_cons_succ]
            refine Late.Goes.done (by kernel_rfl) ?_ _
            have HK12 := Lib.hid (HK11.out.step_but HB12.out (fun j hj h => h))
            go_wp2_with fail
            go_roundw
            case rel => exact ⟨k + 1, g4, T5, gl5, gu5, X5, m5, by omega, by go_num, HK12.out⟩
            case measure => simp [intOf]; omega
    · have HK := Lib.hid hK
      have HE := Lib.hid (kents_any hK.tab)
      clear hK hnn HPR
      go_wp2_with fail
      refine HE.out.mono ?_
      rintro e w4 ⟨a4, c4, L, rfl, hp, hr, hE, hB4⟩
      obtain ⟨g4, ha4, _⟩ := hE.at_
      subst ha4
      have HST := Lib.hid (fun i j (hij : i < j) (hj : j < L.length) => strictly HK.out.tab.good.wf hp hr hij hj)
      have HMB := Lib.hid (fun e (h : e ∈ L) => mem_ents.1 (hp.mem_iff.1 h))
      have HLL := Lib.hid (show L.length = cnt T by rw [hp.length_eq, ents_length])
      have HK4 := Lib.hid (HK.out.step_but hB4 (fun j hj h => h))
      have HE4 := Lib.hid hE
      have hLc : L.length ≤ 4000 := by have := cnt_le T; rw [HK.out.ref.len] at this; have := HK.out.ref.few; have := HLL.out; omega
      have hfw := HK.out.ref.few
      obtain ⟨l1, l2⟩ := hfw
      clear hp hr hE hB4 HE HK
      obtain ⟨N, hN⟩ : ∃ N, N = L.length := ⟨_, rfl⟩
      rw [← hN] at hLc ⊢
      have HNL := Lib.hid hN
      clear hN
      go_wp2_with fail
      go_loopw [12] (fun x wr => ∃ j : Nat, j ≤ N ∧ x = .int .i64 (j : Int) ∧ PR W p rp k wr g T gl gu X m ∧ Ents wr (some ⟨g4, 0, none⟩) L) (fun x _ => N - (intOf x).toNat)
      case atStart => exact ⟨0, by omega, rfl, HK4.out, HE4.out⟩
      case round =>
        obtain ⟨j, hj, rfl, hK, hE⟩ := hrel
        by_cases hjl : j < N
        · have hjL : j < L.length := by have := HNL.out; omega
          obtain ⟨e, he⟩ : ∃ e, e = L[j] := ⟨_, rfl⟩
          have heT := HMB.out e (by rw [he]; exact List.getElem_mem _)
          have hask : ask T e.key = some e := (ask_iff hK.tab.good.wf hK.tab.good.free).2 ⟨heT, rfl⟩
          have hsm := hK.ref.small e heT
          have hfl := find_lt (show 0 < T.length by have := hK.tab.lt; omega) e.key
          rw [hK.ref.len] at hfl
          obtain ⟨f5, hf5⟩ : ∃ f, f = find T e.key := ⟨_, rfl⟩
          have HLK := Lib.hid (show look T f5 = some e by rw [hf5]; exact hask)
          rw [← hf5] at hfl
          have HFS := Lib.hid (fun V (hV : PR W p rp k V g T gl gu X m) => rfind_any hV.ref hV.tab.good.free e.key hsm)
          rw [← hf5] at HFS
          have HKEY := Lib.hid (fun V (hV : Ents V (some ⟨g4, 0, none⟩) L) => show V.cell? ⟨g4, j * 7, none⟩ = some (.string e.key) by rw [he]; exact hV.key hjL)
          have HRG := Lib.hid (fun V (hV : Ents V (some ⟨g4, 0, none⟩) L) => show V.rangeAt g4 (j * 7) (ecells e) by rw [he]; exact hV.range hjL)
          have HK5 := Lib.hid hK
          have HE5 := Lib.hid hE
          have hji : (j : Int) < (N : Int) := by omega
          have hD := (But.refl (fun _ => False) wr).drew
          have HKD := Lib.hid (hK.step_but hD (fun j hj h => h))
          have HED := Lib.hid (hE.but hD)
          by_cases hj0 : j = 0
          · subst hj0
            clear hK hE he heT hask hf5 hD
            go_wp2_with fail
            refine Late.region_goes (fun V => V = wr.drew) (fun _ => false) (by kernel_rfl) ?_ (fun hH => ?_)
            · rfl
            refine Late.Goes.takeT (i := 0) (v := ?_) (by simp only [List.getElem?_toArray, List.getElem?_cons_succ, List.getElem?_cons_zero]; rfl) (by kernel_rfl) (by kernel_rfl) (by kernel_rfl) (by kernel_rfl) (by kernel_rfl) (by exact fun _ _ _ h => h) (Or.inl ⟨by rfl, ?_⟩) hH ?_
            rotate_left
            · (intro wy hSw; (try dsimp only at hSw); skip; go_simp; try (with_reducible rfl))
            try simp only [Act.put, List.setIfInBounds_toArray, List.set_cons_zero, List.set_cons_succ]
            refine Late.Goes.takeT (i := 1) (v := ?_) (by simp only [List.getElem?_toArray, List.getElem?_cons_succ, List.getElem?_cons_zero]; rfl) (by kernel_rfl) (by kernel_rfl) (by kernel_rfl) (by kernel_rfl) (by kernel_rfl) (by exact fun _ _ _ h => h) (Or.inl ⟨by rfl, ?_⟩) hH ?_
            rotate_left
            · (intro wy hSw; (try dsimp only at hSw); skip; go_simp; try (with_reducible rfl))
            try simp only [Act.put, List.setIfInBounds_toArray, List.set_cons_zero, List.set_cons_succ]
            refine Late.Goes.takeT (i := 2) (v := ?_) (by simp only [List.getElem?_toArray, List.getElem?_cons_succ, List.getElem?_cons_zero]; rfl) (by kernel_rfl) (by kernel_rfl) (by kernel_rfl) (by kernel_rfl) (by kernel_rfl) (by exact fun _ _ _ h => h) (Or.inl ⟨by rfl, ?_⟩) hH ?_
            rotate_left
            · (intro wy hSw; (try dsimp only at hSw); skip; go_simp; try (with_reducible rfl))
            try simp only [Act.put, List.setIfInBounds_toArray, List.set_cons_zero, List.set_cons_succ]
            refine Late.Goes.takeT (i := 3) (v := undef) (by simp only [List.getElem?_toArray, List.getElem?_cons_succ, List.getElem?_cons_zero]; rfl) (by kernel_rfl) (by kernel_rfl) (by kernel_rfl) (by kernel_rfl) (by kernel_rfl) (by exact fun _ _ _ h => h) (Or.inr ⟨by rfl, rfl⟩) hH ?_
            try simp only [Act.put, List.setIfInBounds_toArray, List.set_cons_zero, List.set_cons_succ]
            refine Late.Goes.takeT (i := 4) (v := undef) (by simp only [List.getElem?_toArray, List.getElem?_cons_succ, List.getElem?_cons_zero]; rfl) (by kernel_rfl) (by kernel_rfl) (by kernel_rfl) (by kernel_rfl) (by kernel_rfl) (by exact fun _ _ _ h => h) (Or.inr ⟨by rfl, rfl⟩) hH ?_
            try simp only [Act.put, List.setIfInBounds_toArray, List.set_cons_zero, List.set_cons_succ]
            refine Late.Goes.takeT (i := 5) (v := undef) (by simp only [List.getElem?_toArray, List.getElem?_cons_succ, List.getElem?_cons_zero]; rfl) (by kernel_rfl) (by kernel_rfl) (by kernel_rfl) (by kernel_rfl) (by kernel_rfl) (by exact fun _ _ _ h => h) (Or.inr ⟨by rfl, rfl⟩) hH ?_
            try simp only [Act.put, List.setIfInBounds_toArray, List.set_cons_zero, List.set_cons_succ]
            refine Late.Goes.takeT (i := 6) (v := undef) (by simp only [List.getElem?_toArray, List.getElem?_cons_succ, List.getElem?_cons_zero]; rfl) (by kernel_rfl) (by kernel_rfl) (by kernel_rfl) (by kernel_rfl) (by kernel_rfl) (by exact fun _ _ _ h => h) (Or.inr ⟨by rfl, rfl⟩) hH ?_
            try simp only [Act.put, List.setIfInBounds_toArray, List.set_cons_zero, List.set_cons_succ]
            refine Late.Goes.takeT (i := 7) (v := undef) (by simp only [List.getElem?_toArray, List.getElem?_cons_succ, List.getElem?_cons_zero]; rfl) (by kernel_rfl) (by kernel_rfl) (by kernel_rfl) (by kernel_rfl) (by kernel_rfl) (by exact fun _ _ _ h => h) (Or.inr ⟨by rfl, rfl⟩) hH ?_
            try simp only [Act.put, List.setIfInBounds_toArray, List.set_cons_zero, List.set_cons_succ]
            refine Late.Goes.takeT (i := 8) (v := undef) (by simp only [List.getElem?_toArray, List.getElem?_cons_succ, List.getElem?_cons_zero]; rfl) (by kernel_rfl) (by kernel_rfl) (by kernel_rfl) (by kernel_rfl) (by kernel_rfl) (by exact fun _ _ _ h => h) (Or.inr ⟨by rfl, rfl⟩) hH ?_
            try simp only [Act.put, List.setIfInBounds_toArray, List.set_cons_zero, List.set_cons_succ]
            refine Late.Goes.takeT (i := 9) (v := undef) (by simp only [List.getElem?_toArray, List.getElem?_cons_succ, List.getElem?_cons_zero]; rfl) (by kernel_rfl) (by kernel_rfl) (by kernel_rfl) (by kernel_rfl) (by kernel_rfl) (by exact fun _ _ _ h => h) (Or.inr ⟨by rfl, rfl⟩) hH ?_
            try simp only [Act.put, List.setIfInBounds_toArray, List.set_cons_zero, List.set_cons_succ]
            refine Late.Goes.takeT (i := 10) (v := undef) (by simp only [List.getElem?_toArray, List.getElem?_cons_succ, List.getElem?_cons_zero]; rfl) (by kernel_rfl) (by kernel_rfl) (by kernel_rfl) (by kernel_rfl) (by kernel_rfl) (by exact fun _ _ _ h => h) (Or.inr ⟨by rfl, rfl⟩) hH ?_
            try simp only [Act.put, List.setIfInBounds_toArray, List.set_cons_zero, List.set_cons_succ]
            refine Late.Goes.takeT (i := 11) (v := undef) (by simp only [List.getElem?_toArray, List.getElem?_cons_succ, List.getElem?_cons_zero]; rfl) (by kernel_rfl) (by kernel_rfl) (by kernel_rfl) (by kernel_rfl) (by kernel_rfl) (by exact fun _ _ _ h => h) (Or.inr ⟨by rfl, rfl⟩) hH ?_
            try simp only [Act.put, List.setIfInBounds_toArray, List.set_cons_zero, List.set_cons_succ]
            refine Late.Goes.takeT (i := 12) (v := undef) (by simp only [List.getElem?_toArray, List.getElem?_cons_succ, List.getElem?_cons_zero]; rfl) (by kernel_rfl) (by kernel_rfl) (by kernel_rfl) (by kernel_rfl) (by kernel_rfl) (by exact fun _ _ _ h => h) (Or.inr ⟨by rfl, rfl⟩) hH ?_
            try simp only [Act.put, List.setIfInBounds_toArray, List.set_cons_zero, List.set_cons_succ]
            refine Late.Goes.takeT (i := 13) (v := undef) (by simp only [List.getElem?_toArray, List.getElem?_cons_succ, List.getElem?_cons_zero]; rfl) (by kernel_rfl) (by kernel_rfl) (by kernel_rfl) (by kernel_rfl) (by kernel_rfl) (by exact fun _ _ _ h => h) (Or.inr ⟨by rfl, rfl⟩) hH ?_
            try simp only [Act.put, List.setIfInBounds_toArray, List.set_cons_zero, List.set_cons_succ]
            refine Late.Goes.takeT (i := 14) (v := undef) (by simp only [List.getElem?_toArray, List.getElem?_cons_succ, List.getElem?_cons_zero]; rfl) (by kernel_rfl) (by kernel_rfl) (by kernel_rfl) (by kernel_rfl) (by kernel_rfl) (by exact fun _ _ _ h => h) (Or.inr ⟨by rfl, rfl⟩) hH ?_
            try simp only [Act.put, List.setIfInBounds_toArray, List.set_cons_zero, List.set_cons_succ]
            refine Late.Goes.takeT (i := 15) (v := ?_) (by simp only [List.getElem?_toArray, List.getElem?_cons_succ, List.getElem?_cons_zero]; rfl) (by kernel_rfl) (by kernel_rfl) (by kernel_rfl) (by kernel_rfl) (by kernel_rfl) (by exact fun _ _ _ h => h) (Or.inl ⟨by rfl, ?_⟩) hH ?_
            rotate_left
            · (intro wy hSw; (try dsimp only at hSw); skip; go_simp; try (with_reducible rfl))
            try simp only [Act.put, List.setIfInBounds_toArray, List.set_cons_zero, List.set_cons_succ]
            refine Late.Goes.done (by kernel_rfl) ?_ _
            have HFD := Lib.hid (HFS.out _ HKD.out)
            have c1 : wr.drew.cell? ⟨g4, 0, none⟩ = some (.string e.key) := HKEY.out _ HED.out
            clear HFS HKEY HST
            go_wp2_with fail
            refine HFD.out.mono ?_
            rintro e1 w' ⟨rfl, rfl⟩
            clear c1
            go_wp2_with fail
            have hD2 := (But.refl (fun _ => False) wr.drew).drew
            have HK6 := Lib.hid (HKD.out.step_but hD2 (fun j hj h => h))
            have HE6 := Lib.hid (HED.out.but hD2)
            have HC0 := Lib.hid (fun V (hV : But (fun _ => False) wr.drew.drew V) => show V.cell? ⟨rp, 0, none⟩ = some (.slice (some ⟨gl, 0, none⟩) m m) from (HK6.out.step_but hV (fun j hj h => h)).ref.blk.cell 0)
            have HC1 := Lib.hid (fun V (hV : But (fun _ => False) wr.drew.drew V) => show V.cell? ⟨rp, 1, none⟩ = some (.slice (some ⟨gu, 0, none⟩) m m) from (HK6.out.step_but hV (fun j hj h => h)).ref.blk.cell 1)
            have HU := Lib.hid (fun V (hV : But (fun _ => False) wr.drew.drew V) => show V.cell? ⟨gu, f5, none⟩ = some (.bool true) by rw [(HK6.out.step_but hV (fun j hj h => h)).ref.used hfl, HLK.out]; rfl)
            have hfi : (f5 : Int) < (m : Int) := by omega
            have sn : ∀ w, (binOp .neq 38 (.agg #[.string e.key, .int .i64 e.seg, .int .i64 e.at_, .int .i64 e.len, .int .u64 (e.ver : Int), .int .u64 (e.exp : Int), .int .i64 e.size]) (.agg #[.string e.key, .int .i64 e.seg, .int .i64 e.at_, .int .i64 e.len, .int .u64 (e.ver : Int), .int .u64 (e.exp : Int), .int .i64 e.size])).run Tryd.prog w = .ok (.bool false) w := fun w => by
              have h := rent_neq e e w
              rw [decide_eq_true rfl] at h
              exact h
            clear hD2 HFD HKD HED
            refine Late.region_goes (fun V => But (fun _ => False) wr.drew.drew V) (fun _ => false) (by kernel_rfl) ?_ (fun hH => ?_)
            · exact But.refl _ _
            refine Late.Goes.takeT (i := 0) (v := ?_) (by simp only [List.getElem?_toArray, List.getElem?_cons_succ, List.getElem?_cons_zero]; rfl) (by kernel_rfl) (by kernel_rfl) (by kernel_rfl) (by kernel_rfl) (by kernel_rfl) (by exact fun _ _ _ h => h) (Or.inl ⟨by rfl, ?_⟩) hH ?_
            rotate_left
            · (intro wy hSw; (try dsimp only at hSw); have k0 := HC0.out wy hSw; have k1 := HC1.out wy hSw; have k2 := HU.out wy hSw; go_simp; try (with_reducible rfl))
            try simp only [Act.put, List.setIfInBounds_toArray, List.set_cons_zero, List.set_cons_succ]
            refine Late.Goes.takeT (i := 1) (v := ?_) (by simp only [List.getElem?_toArray, List.getElem?_cons_succ, List.getElem?_cons_zero]; rfl) (by kernel_rfl) (by kernel_rfl) (by kernel_rfl) (by kernel_rfl) (by kernel_rfl) (by exact fun _ _ _ h => h) (Or.inl ⟨by rfl, ?_⟩) hH ?_
            rotate_left
            · (intro wy hSw; (try dsimp only at hSw); have k0 := HC0.out wy hSw; have k1 := HC1.out wy hSw; have k2 := HU.out wy hSw; go_simp; try (with_reducible rfl))
            try simp only [Act.put, List.setIfInBounds_toArray, List.set_cons_zero, List.set_cons_succ]
            refine Late.Goes.takeT (i := 2) (v := ?_) (by simp only [List.getElem?_toArray, List.getElem?_cons_succ, List.getElem?_cons_zero]; rfl) (by kernel_rfl) (by kernel_rfl) (by kernel_rfl) (by kernel_rfl) (by kernel_rfl) (by exact fun _ _ _ h => h) (Or.inl ⟨by rfl, ?_⟩) hH ?_
            rotate_left
            · (intro wy hSw; (try dsimp only at hSw); have k0 := HC0.out wy hSw; have k1 := HC1.out wy hSw; have k2 := HU.out wy hSw; go_simp; try (with_reducible rfl))
            try simp only [Act.put, List.setIfInBounds_toArray, List.set_cons_zero, List.set_cons_succ]
            refine Late.Goes.takeT (i := 3) (v := ?_) (by simp only [List.getElem?_toArray, List.getElem?_cons_succ, List.getElem?_cons_zero]; rfl) (by kernel_rfl) (by kernel_rfl) (by kernel_rfl) (by kernel_rfl) (by kernel_rfl) (by exact fun _ _ _ h => h) (Or.inl ⟨by rfl, ?_⟩) hH ?_
            rotate_left
            · (intro wy hSw; (try dsimp only at hSw); have k0 := HC0.out wy hSw; have k1 := HC1.out wy hSw; have k2 := HU.out wy hSw; go_simp; try (with_reducible rfl))
            try simp only [Act.put, List.setIfInBounds_toArray, List.set_cons_zero, List.set_cons_succ]
            refine Late.Goes.takeT (i := 4) (v := ?_) (by simp only [List.getElem?_toArray, List.getElem?_cons_succ, List.getElem?_cons_zero]; rfl) (by kernel_rfl) (by kernel_rfl) (by kernel_rfl) (by kernel_rfl) (by kernel_rfl) (by exact fun _ _ _ h => h) (Or.inl ⟨by rfl, ?_⟩) hH ?_
            rotate_left
            · (intro wy hSw; (try dsimp only at hSw); have k0 := HC0.out wy hSw; have k1 := HC1.out wy hSw; have k2 := HU.out wy hSw; go_simp; try (with_reducible rfl))
            try simp only [Act.put, List.setIfInBounds_toArray, List.set_cons_zero, List.set_cons_succ]
            refine Late.Goes.takeT (i := 5) (v := ?_) (by simp only [List.getElem?_toArray, List.getElem?_cons_succ, List.getElem?_cons_zero]; rfl) (by kernel_rfl) (by kernel_rfl) (by kernel_rfl) (by kernel_rfl) (by kernel_rfl) (by exact fun _ _ _ h => h) (Or.inl ⟨by rfl, ?_⟩) hH ?_
            rotate_left
            · (intro wy hSw; (try dsimp only at hSw); have k0 := HC0.out wy hSw; have k1 := HC1.out wy hSw; have k2 := HU.out wy hSw; go_simp; try (with_reducible rfl))
            try simp only [Act.put, List.setIfInBounds_toArray, List.set_cons_zero, List.set_cons_succ]
            refine Late.Goes.takeT (i := 6) (v := ?_) (by simp only [List.getElem?_toArray, List.getElem?_cons_succ, List.getElem?_cons_zero]; rfl) (by kernel_rfl) (by kernel_rfl) (by kernel_rfl) (by kernel_rfl) (by kernel_rfl) (by exact fun _ _ _ h => h) (Or.inl ⟨by rfl, ?_⟩) hH ?_
            rotate_left
            · (intro wy hSw; (try dsimp only at hSw); have k0 := HC0.out wy hSw; have k1 := HC1.out wy hSw; have k2 := HU.out wy hSw; go_simp; try (with_reducible rfl))
            try simp only [Act.put, List.setIfInBounds_toArray, List.set_cons_zero, List.set_cons_succ]
            refine Late.Goes.takeT (i := 7) (v := ?_) (by simp only [List.getElem?_toArray, List.getElem?_cons_succ, List.getElem?_cons_zero]; rfl) (by kernel_rfl) (by kernel_rfl) (by kernel_rfl) (by kernel_rfl) (by kernel_rfl) (by exact fun _ _ _ h => h) (Or.inl ⟨by rfl, ?_⟩) hH ?_
            rotate_left
            · (intro wy hSw; (try dsimp only at hSw); have k0 := HC0.out wy hSw; have k1 := HC1.out wy hSw; have k2 := HU.out wy hSw; go_simp; try (with_reducible rfl))
            try simp only [Act.put, List.setIfInBounds_toArray, List.set_cons_zero, List.set_cons_succ]
            refine Late.Goes.takeT (i := 8) (v := ?_) (by simp only [List.getElem?_toArray, List.getElem?_cons_succ, List.getElem?_cons_zero]; rfl) (by kernel_rfl) (by kernel_rfl) (by kernel_rfl) (by kernel_rfl) (by kernel_rfl) (by exact fun _ _ _ h => h) (Or.inl ⟨by rfl, ?_⟩) hH ?_
            rotate_left
            · (intro wy hSw; (try dsimp only at hSw); have k0 := HC0.out wy hSw; have k1 := HC1.out wy hSw; have k2 := HU.out wy hSw; go_simp; try (with_reducible rfl))
            try simp only [Act.put, List.setIfInBounds_toArray, List.set_cons_zero, List.set_cons_succ]
            refine Late.Goes.takeT (i := 9) (v := ?_) (by simp only [List.getElem?_toArray, List.getElem?_cons_succ, List.getElem?_cons_zero]; rfl) (by kernel_rfl) (by kernel_rfl) (by kernel_rfl) (by kernel_rfl) (by kernel_rfl) (by exact fun _ _ _ h => h) (Or.inl ⟨by rfl, ?_⟩) hH ?_
            rotate_left
            · (intro wy hSw; (try dsimp only at hSw); have k0 := HC0.out wy hSw; have k1 := HC1.out wy hSw; have k2 := HU.out wy hSw; go_simp; try (with_reducible rfl))
            try simp only [Act.put, List.setIfInBounds_toArray, List.set_cons_zero, List.set_cons_succ]
            refine Late.Goes.takeT (i := 10) (v := ?_) (by simp only [List.getElem?_toArray, List.getElem?_cons_succ, List.getElem?_cons_zero]; rfl) (by kernel_rfl) (by kernel_rfl) (by kernel_rfl) (by kernel_rfl) (by kernel_rfl) (by exact fun _ _ _ h => h) (Or.inl ⟨by rfl, ?_⟩) hH ?_
            rotate_left
            · (intro wy hSw; (try dsimp only at hSw); have k0 := HC0.out wy hSw; have k1 := HC1.out wy hSw; have k2 := HU.out wy hSw; go_simp; try (with_reducible rfl))
            try simp only [Act.put, List.setIfInBounds_toArray, List.set_cons_zero, List.set_cons_succ]
            refine Late.Goes.takeT (i := 11) (v := ?_) (by simp only [List.getElem?_toArray, List.getElem?_cons_succ, List.getElem?_cons_zero]; rfl) (by kernel_rfl) (by kernel_rfl) (by kernel_rfl) (by kernel_rfl) (by kernel_rfl) (by exact fun _ _ _ h => h) (Or.inl ⟨by rfl, ?_⟩) hH ?_
            rotate_left
            · (intro wy hSw; (try dsimp only at hSw); have k0 := HC0.out wy hSw; have k1 := HC1.out wy hSw; have k2 := HU.out wy hSw; go_simp; try (with_reducible rfl))
            try simp only [Act.put, List.setIfInBounds_toArray, List.set_cons_zero, List.set_cons_succ]
            refine Late.Goes.takeT (i := 12) (v := ?_) (by simp only [List.getElem?_toArray, List.getElem?_cons_succ, List.getElem?_cons_zero]; rfl) (by kernel_rfl) (by kernel_rfl) (by kernel_rfl) (by kernel_rfl) (by kernel_rfl) (by exact fun _ _ _ h => h) (Or.inl ⟨by rfl, ?_⟩) hH ?_
            rotate_left
            · (intro wy hSw; (try dsimp only at hSw); have k0 := HC0.out wy hSw; have k1 := HC1.out wy hSw; have k2 := HU.out wy hSw; go_simp; try (with_reducible rfl))
            try simp only [Act.put, List.setIfInBounds_toArray, List.set_cons_zero, List.set_cons_succ]
            refine Late.Goes.takeT (i := 13) (v := ?_) (by simp only [List.getElem?_toArray, List.getElem?_cons_succ, List.getElem?_cons_zero]; rfl) (by kernel_rfl) (by kernel_rfl) (by kernel_rfl) (by kernel_rfl) (by kernel_rfl) (by exact fun _ _ _ h => h) (Or.inl ⟨by rfl, ?_⟩) hH ?_
            rotate_left
            · (intro wy hSw; (try dsimp only at hSw); have k0 := HC0.out wy hSw; have k1 := HC1.out wy hSw; have k2 := HU.out wy hSw; go_simp; try (with_reducible rfl))
            try simp only [Act.put, List.setIfInBounds_toArray, List.set_cons_zero, List.set_cons_succ]
            refine Late.Goes.takeT (i := 14) (v := ?_) (by simp only [List.getElem?_toArray, List.getElem?_cons_succ, List.getElem?_cons_zero]; rfl) (by kernel_rfl) (by kernel_rfl) (by kernel_rfl) (by kernel_rfl) (by kernel_rfl) (by exact fun _ _ _ h => h) (Or.inl ⟨by rfl, ?_⟩) hH ?_
            rotate_left
            · (intro wy hSw; (try dsimp only at hSw); have k0 := HC0.out wy hSw; have k1 := HC1.out wy hSw; have k2 := HU.out wy hSw; go_simp; try (with_reducible rfl))
            try simp only [Act.put, List.setIfInBounds_toArray, List.set_cons_zero, List.set_cons_succ]
            refine Late.Goes.takeT (i := 15) (v := _) (by simp only [List.getElem?_toArray, List.getElem?_cons_succ, List.getElem?_cons_zero]; rfl) (by kernel_rfl) (by kernel_rfl) (by kernel_rfl) (by kernel_rfl) (by kernel_rfl) (by exact fun _ _ _ h => h) (yields_rentryX (by rfl) _ rfl gl (f5 * 7) rfl e (fun V hV => (HK6.out.step_but hV (fun j hj h => h)).ref.range (HK6.out.ref.same f5 e HLK.out))) hH ?_
            try simp only [Act.put, List.setIfInBounds_toArray, List.set_cons_zero, List.set_cons_succ]
            refine Late.Goes.takeT (i := 16) (v := ?_) (by simp only [List.getElem?_toArray, List.getElem?_cons_succ, List.getElem?_cons_zero]; rfl) (by kernel_rfl) (by kernel_rfl) (by kernel_rfl) (by kernel_rfl) (by kernel_rfl) (by exact fun _ _ _ h => h) (Or.inl ⟨by rfl, ?_⟩) hH ?_
            rotate_left
            · (intro wy hSw; (try dsimp only at hSw); have k0 := HC0.out wy hSw; have k1 := HC1.out wy hSw; have k2 := HU.out wy hSw; go_simp; try (with_reducible rfl))
            try simp only [Act.put, List.setIfInBounds_toArray, List.set_cons_zero, List.set_cons_succ]
            refine Late.Goes.takeT (i := 17) (v := ?_) (by simp only [List.getElem?_toArray, List.getElem?_cons_succ, List.getElem?_cons_zero]; rfl) (by kernel_rfl) (by kernel_rfl) (by kernel_rfl) (by kernel_rfl) (by kernel_rfl) (by exact fun _ _ _ h => h) (Or.inl ⟨by rfl, ?_⟩) hH ?_
            rotate_left
            · (intro wy hSw; (try dsimp only at hSw); have k0 := HC0.out wy hSw; have k1 := HC1.out wy hSw; have k2 := HU.out wy hSw; go_simp; try (with_reducible rfl))
            try simp only [Act.put, List.setIfInBounds_toArray, List.set_cons_zero, List.set_cons_succ]
            refine Late.Goes.takeT (i := 18) (v := ?_) (by simp only [List.getElem?_toArray, List.getElem?_cons_succ, List.getElem?_cons_zero]; rfl) (by kernel_rfl) (by kernel_rfl) (by kernel_rfl) (by kernel_rfl) (by kernel_rfl) (by exact fun _ _ _ h => h) (Or.inl ⟨by rfl, ?_⟩) hH ?_
            rotate_left
            · (intro wy hSw; (try dsimp only at hSw); have k0 := HC0.out wy hSw; have k1 := HC1.out wy hSw; have k2 := HU.out wy hSw; go_simp; try (with_reducible rfl))
            try simp only [Act.put, List.setIfInBounds_toArray, List.set_cons_zero, List.set_cons_succ]
            refine Late.Goes.takeT (i := 19) (v := _) (by simp only [List.getElem?_toArray, List.getElem?_cons_succ, List.getElem?_cons_zero]; rfl) (by kernel_rfl) (by kernel_rfl) (by kernel_rfl) (by kernel_rfl) (by kernel_rfl) (by exact fun _ _ _ h => h) (yields_entryX (by rfl) _ rfl g4 (0) rfl e (fun V hV => HRG.out V (HE6.out.but hV))) hH ?_
            try simp only [Act.put, List.setIfInBounds_toArray, List.set_cons_zero, List.set_cons_succ]
            refine Late.Goes.one (i := 20) (by kernel_rfl) (by simp only [List.getElem?_toArray, List.getElem?_cons_succ, List.getElem?_cons_zero]; rfl) (fun K hK => ?_)
            clear hH
            go_simp
            go_at_call 12
            refine (as_any e wr.drew.drew).mono ?_
            rintro e1 w5 ⟨rfl, hB5⟩
            have HB5 := Lib.hid hB5
            clear hB5
            refine hK.out _ _ ?_ (fun hH => ?_)
            · exact fun _ => HB5.out
            clear hK K
            have hH := hH rfl
            try simp only [Act.put, List.setIfInBounds_toArray, List.set_cons_zero, List.set_cons_succ]
            refine Late.Goes.takeT (i := 21) (v := ?_) (by simp only [List.getElem?_toArray, List.getElem?_cons_succ, List.getElem?_cons_zero]; rfl) (by kernel_rfl) (by kernel_rfl) (by kernel_rfl) (by kernel_rfl) (by kernel_rfl) (by exact fun _ _ _ h => h) (Or.inl ⟨by rfl, ?_⟩) hH ?_
            rotate_left
            · (intro wy hSw; (try dsimp only at hSw); have k0 := HC0.out wy hSw; have k1 := HC1.out wy hSw; have k2 := HU.out wy hSw; go_simp; try (with_reducible rfl))
            try simp only [Act.put, List.setIfInBounds_toArray, List.set_cons_zero, List.set_cons_succ]
            refine Late.Goes.takeT (i := 22) (v := ?_) (by simp only [List.getElem?_toArray, List.getElem?_cons_succ, List.getElem?_cons_zero]; rfl) (by kernel_rfl) (by kernel_rfl) (by kernel_rfl) (by kernel_rfl) (by kernel_rfl) (by exact fun _ _ _ h => h) (Or.inl ⟨by rfl, ?_⟩) hH ?_
            rotate_left
            · (intro wy hSw; (try dsimp only at hSw); have k0 := HC0.out wy hSw; have k1 := HC1.out wy hSw; have k2 := HU.out wy hSw; go_simp; try (with_reducible rfl))
            try simp only [Act.put, List.setIfInBounds_toArray, List.set_cons_zero, List.set_cons_succ]
            refine Late.Goes.done (by kernel_rfl) ?_ _
            have HK7 := Lib.hid (HK6.out.step_but HB5.out (fun j hj h => h))
            have HE7 := Lib.hid (HE6.out.but HB5.out)
            go_wp2_with fail
            go_roundw
            case rel => exact ⟨0 + 1, by omega, by go_num, HK7.out, HE7.out⟩
            case measure => simp [intOf]; omega
          · obtain ⟨i, rfl⟩ : ∃ i, j = i + 1 := ⟨j - 1, by omega⟩
            have hiL : i < L.length := by omega
            have HLE := Lib.hid (show (Op.bytesLess e.key.toList (L[i]).key.toList || e.key.toList == (L[i]).key.toList) = false by rw [he]; exact HST.out i (i + 1) (by omega) hjL)
            obtain ⟨s0, hs0⟩ : ∃ s, s = (L[i]).key := ⟨_, rfl⟩
            have HK0 := Lib.hid (show wr.drew.cell? ⟨g4, i * 7, none⟩ = some (.string s0) by rw [hs0]; exact HED.out.key hiL)
            rw [← hs0] at HLE
            have hle := HLE.out
            rw [Bool.or_eq_false_iff] at hle
            obtain ⟨hle1, hle2⟩ := hle
            have hii : (i : Int) < (N : Int) := by omega
            have hi1 : (i : Int) + 1 < (N : Int) := by omega
            have hi2 : (0 : Int) < (i : Int) + 1 := by omega
            have hi3 : (0 : Int) ≤ (i : Int) + 1 := by omega
            have hwi : IntKind.i64.wrap (i : Int) = (i : Int) := by simp [IntKind.wrap, IntKind.bits, IntKind.signed]; omega
            have HK1 := Lib.hid (show wr.drew.cell? ⟨g4, (i + 1) * 7, none⟩ = some (.string e.key) from HKEY.out _ HED.out)
            clear hK hE he heT hask hf5 hs0 hD hj0
            go_wp2_with fail
            refine Late.region_goes (fun V => V = wr.drew) (fun _ => false) (by kernel_rfl) ?_ (fun hH => ?_)
            · rfl
            refine Late.Goes.takeT (i := 0) (v := ?_) (by simp only [List.getElem?_toArray, List.getElem?_cons_succ, List.getElem?_cons_zero]; rfl) (by kernel_rfl) (by kernel_rfl) (by kernel_rfl) (by kernel_rfl) (by kernel_rfl) (by exact fun _ _ _ h => h) (Or.inl ⟨by rfl, ?_⟩) hH ?_
            rotate_left
            · (intro wy hSw; (try dsimp only at hSw); subst hSw; have k0 := HK0.out; have k1 := HK1.out; go_simp; try (with_reducible rfl))
            try simp only [Act.put, List.setIfInBounds_toArray, List.set_cons_zero, List.set_cons_succ]
            refine Late.Goes.takeT (i := 1) (v := ?_) (by simp only [List.getElem?_toArray, List.getElem?_cons_succ, List.getElem?_cons_zero]; rfl) (by kernel_rfl) (by kernel_rfl) (by kernel_rfl) (by kernel_rfl) (by kernel_rfl) (by exact fun _ _ _ h => h) (Or.inl ⟨by rfl, ?_⟩) hH ?_
            rotate_left
            · (intro wy hSw; (try dsimp only at hSw); subst hSw; have k0 := HK0.out; have k1 := HK1.out; go_simp; try (with_reducible rfl))
            try simp only [Act.put, List.setIfInBounds_toArray, List.set_cons_zero, List.set_cons_succ]
            refine Late.Goes.takeT (i := 2) (v := ?_) (by simp only [List.getElem?_toArray, List.getElem?_cons_succ, List.getElem?_cons_zero]; rfl) (by kernel_rfl) (by kernel_rfl) (by kernel_rfl) (by kernel_rfl) (by kernel_rfl) (by exact fun _ _ _ h => h) (Or.inl ⟨by rfl, ?_⟩) hH ?_
            rotate_left
            · (intro wy hSw; (try dsimp only at hSw); subst hSw; have k0 := HK0.out; have k1 := HK1.out; go_simp; try (with_reducible rfl))
            try simp only [Act.put, List.setIfInBounds_toArray, List.set_cons_zero, List.set_cons_succ]
            refine Late.Goes.takeT (i := 3) (v := ?_) (by simp only [List.getElem?_toArray, List.getElem?_cons_succ, List.getElem?_cons_zero]; rfl) (by kernel_rfl) (by kernel_rfl) (by kernel_rfl) (by kernel_rfl) (by kernel_rfl) (by exact fun _ _ _ h => h) (Or.inl ⟨by rfl, ?_⟩) hH ?_
            rotate_left
            · (intro wy hSw; (try dsimp only at hSw); subst hSw; have k0 := HK0.out; have k1 := HK1.out; go_simp; try (with_reducible rfl))
            try simp only [Act.put, List.setIfInBounds_toArray, List.set_cons_zero, List.set_cons_succ]
            refine Late.Goes.takeT (i := 4) (v := ?_) (by simp only [List.getElem?_toArray, List.getElem?_cons_succ, List.getElem?_cons_zero]; rfl) (by kernel_rfl) (by kernel_rfl) (by kernel_rfl) (by kernel_rfl) (by kernel_rfl) (by exact fun _ _ _ h => h) (Or.inl ⟨by rfl, ?_⟩) hH ?_
            rotate_left
            · (intro wy hSw; (try dsimp only at hSw); subst hSw; have k0 := HK0.out; have k1 := HK1.out; go_simp; try (with_reducible rfl))
            try simp only [Act.put, List.setIfInBounds_toArray, List.set_cons_zero, List.set_cons_succ]
            refine Late.Goes.takeT (i := 5) (v := ?_) (by simp only [List.getElem?_toArray, List.getElem?_cons_succ, List.getElem?_cons_zero]; rfl) (by kernel_rfl) (by kernel_rfl) (by kernel_rfl) (by kernel_rfl) (by kernel_rfl) (by exact fun _ _ _ h => h) (Or.inl ⟨by rfl, ?_⟩) hH ?_
            rotate_left
            · (intro wy hSw; (try dsimp only at hSw); subst hSw; have k0 := HK0.out; have k1 := HK1.out; go_simp; try (with_reducible rfl))
            try simp only [Act.put, List.setIfInBounds_toArray, List.set_cons_zero, List.set_cons_succ]
            refine Late.Goes.takeT (i := 6) (v := ?_) (by simp only [List.getElem?_toArray, List.getElem?_cons_succ, List.getElem?_cons_zero]; rfl) (by kernel_rfl) (by kernel_rfl) (by kernel_rfl) (by kernel_rfl) (by kernel_rfl) (by exact fun _ _ _ h => h) (Or.inl ⟨by rfl, ?_⟩) hH ?_
            rotate_left
            · (intro wy hSw; (try dsimp only at hSw); subst hSw; have k0 := HK0.out; have k1 := HK1.out; go_simp; try (with_reducible rfl))
            try simp only [Act.put, List.setIfInBounds_toArray, List.set_cons_zero, List.set_cons_succ]
            refine Late.Goes.takeT (i := 7) (v := ?_) (by simp only [List.getElem?_toArray, List.getElem?_cons_succ, List.getElem?_cons_zero]; rfl) (by kernel_rfl) (by kernel_rfl) (by kernel_rfl) (by kernel_rfl) (by kernel_rfl) (by exact fun _ _ _ h => h) (Or.inl ⟨by rfl, ?_⟩) hH ?_
            rotate_left
            · (intro wy hSw; (try dsimp only at hSw); subst hSw; have k0 := HK0.out; have k1 := HK1.out; go_simp; try (with_reducible rfl))
            try simp only [Act.put, List.setIfInBounds_toArray, List.set_cons_zero, List.set_cons_succ]
            refine Late.Goes.takeT (i := 8) (v := ?_) (by simp only [List.getElem?_toArray, List.getElem?_cons_succ, List.getElem?_cons_zero]; rfl) (by kernel_rfl) (by kernel_rfl) (by kernel_rfl) (by kernel_rfl) (by kernel_rfl) (by exact fun _ _ _ h => h) (Or.inl ⟨by rfl, ?_⟩) hH ?_
            rotate_left
            · (intro wy hSw; (try dsimp only at hSw); subst hSw; have k0 := HK0.out; have k1 := HK1.out; go_simp; try (with_reducible rfl))
            try simp only [Act.put, List.setIfInBounds_toArray, List.set_cons_zero, List.set_cons_succ]
            refine Late.Goes.takeT (i := 9) (v := ?_) (by simp only [List.getElem?_toArray, List.getElem?_cons_succ, List.getElem?_cons_zero]; rfl) (by kernel_rfl) (by kernel_rfl) (by kernel_rfl) (by kernel_rfl) (by kernel_rfl) (by exact fun _ _ _ h => h) (Or.inl ⟨by rfl, ?_⟩) hH ?_
            rotate_left
            · (intro wy hSw; (try dsimp only at hSw); subst hSw; have k0 := HK0.out; have k1 := HK1.out; go_simp; try (with_reducible rfl))
            try simp only [Act.put, List.setIfInBounds_toArray, List.set_cons_zero, List.set_cons_succ]
            refine Late.Goes.takeT (i := 10) (v := ?_) (by simp only [List.getElem?_toArray, List.getElem?_cons_succ, List.getElem?_cons_zero]; rfl) (by kernel_rfl) (by kernel_rfl) (by kernel_rfl) (by kernel_rfl) (by kernel_rfl) (by exact fun _ _ _ h => h) (Or.inl ⟨by rfl, ?_⟩) hH ?_
            rotate_left
            · (intro wy hSw; (try dsimp only at hSw); subst hSw; have k0 := HK0.out; have k1 := HK1.out; go_simp; try (with_reducible rfl))
            try simp only [Act.put, List.setIfInBounds_toArray, List.set_cons_zero, List.set_cons_succ]
            refine Late.Goes.takeT (i := 11) (v := ?_) (by simp only [List.getElem?_toArray, List.getElem?_cons_succ, List.getElem?_cons_zero]; rfl) (by kernel_rfl) (by kernel_rfl) (by kernel_rfl) (by kernel_rfl) (by kernel_rfl) (by exact fun _ _ _ h => h) (Or.inl ⟨by rfl, ?_⟩) hH ?_
            rotate_left
            · (intro wy hSw; (try dsimp only at hSw); subst hSw; have k0 := HK0.out; have k1 := HK1.out; go_simp; try (with_reducible rfl))
            try simp only [Act.put, List.setIfInBounds_toArray, List.set_cons_zero, List.set_cons_succ]
            refine Late.Goes.takeT (i := 12) (v := ?_) (by simp only [List.getElem?_toArray, List.getElem?_cons_succ, List.getElem?_cons_zero]; rfl) (by kernel_rfl) (by kernel_rfl) (by kernel_rfl) (by kernel_rfl) (by kernel_rfl) (by exact fun _ _ _ h => h) (Or.inl ⟨by rfl, ?_⟩) hH ?_
            rotate_left
            · (intro wy hSw; (try dsimp only at hSw); subst hSw; have k0 := HK0.out; have k1 := HK1.out; go_simp; try (with_reducible rfl))
            try simp only [Act.put, List.setIfInBounds_toArray, List.set_cons_zero, List.set_cons_succ]
            refine Late.Goes.takeT (i := 13) (v := ?_) (by simp only [List.getElem?_toArray, List.getElem?_cons_succ, List.getElem?_cons_zero]; rfl) (by kernel_rfl) (by kernel_rfl) (by kernel_rfl) (by kernel_rfl) (by kernel_rfl) (by exact fun _ _ _ h => h) (Or.inl ⟨by rfl, ?_⟩) hH ?_
            rotate_left
            · (intro wy hSw; (try dsimp only at hSw); subst hSw; have k0 := HK0.out; have k1 := HK1.out; go_simp; try (with_reducible rfl))
            try simp only [Act.put, List.setIfInBounds_toArray, List.set_cons_zero, List.set_cons_succ]
            refine Late.Goes.takeT (i := 14) (v := ?_) (by simp only [List.getElem?_toArray, List.getElem?_cons_succ, List.getElem?_cons_zero]; rfl) (by kernel_rfl) (by kernel_rfl) (by kernel_rfl) (by kernel_rfl) (by kernel_rfl) (by exact fun _ _ _ h => h) (Or.inl ⟨by rfl, ?_⟩) hH ?_
            rotate_left
            · (intro wy hSw; (try dsimp only at hSw); subst hSw; have k0 := HK0.out; have k1 := HK1.out; go_simp; try (with_reducible rfl))
            try simp only [Act.put, List.setIfInBounds_toArray, List.set_cons_zero, List.set_cons_succ]
            refine Late.Goes.takeT (i := 15) (v := ?_) (by simp only [List.getElem?_toArray, List.getElem?_cons_succ, List.getElem?_cons_zero]; rfl) (by kernel_rfl) (by kernel_rfl) (by kernel_rfl) (by kernel_rfl) (by kernel_rfl) (by exact fun _ _ _ h => h) (Or.inl ⟨by rfl, ?_⟩) hH ?_
            rotate_left
            · (intro wy hSw; (try dsimp only at hSw); subst hSw; have k0 := HK0.out; have k1 := HK1.out; go_simp; try (with_reducible rfl))
            try simp only [Act.put, List.setIfInBounds_toArray, List.set_cons_zero, List.set_cons_succ]
            refine Late.Goes.done (by kernel_rfl) ?_ _
            have HFD := Lib.hid (HFS.out _ HKD.out)
            have c1 : wr.drew.cell? ⟨g4, (i + 1) * 7, none⟩ = some (.string e.key) := HKEY.out _ HED.out
            clear HFS HKEY HST
            go_wp2_with fail
            refine HFD.out.mono ?_
            rintro e1 w' ⟨rfl, rfl⟩
            clear c1
            go_wp2_with fail
            have hD2 := (But.refl (fun _ => False) wr.drew).drew
            have HK6 := Lib.hid (HKD.out.step_but hD2 (fun j hj h => h))
            have HE6 := Lib.hid (HED.out.but hD2)
            have HC0 := Lib.hid (fun V (hV : But (fun _ => False) wr.drew.drew V) => show V.cell? ⟨rp, 0, none⟩ = some (.slice (some ⟨gl, 0, none⟩) m m) from (HK6.out.step_but hV (fun j hj h => h)).ref.blk.cell 0)
            have HC1 := Lib.hid (fun V (hV : But (fun _ => False) wr.drew.drew V) => show V.cell? ⟨rp, 1, none⟩ = some (.slice (some ⟨gu, 0, none⟩) m m) from (HK6.out.step_but hV (fun j hj h => h)).ref.blk.cell 1)
            have HU := Lib.hid (fun V (hV : But (fun _ => False) wr.drew.drew V) => show V.cell? ⟨gu, f5, none⟩ = some (.bool true) by rw [(HK6.out.step_but hV (fun j hj h => h)).ref.used hfl, HLK.out]; rfl)
            have hfi : (f5 : Int) < (m : Int) := by omega
            have sn : ∀ w, (binOp .neq 38 (.agg #[.string e.key, .int .i64 e.seg, .int .i64 e.at_, .int .i64 e.len, .int .u64 (e.ver : Int), .int .u64 (e.exp : Int), .int .i64 e.size]) (.agg #[.string e.key, .int .i64 e.seg, .int .i64 e.at_, .int .i64 e.len, .int .u64 (e.ver : Int), .int .u64 (e.exp : Int), .int .i64 e.size])).run Tryd.prog w = .ok (.bool false) w := fun w => by
              have h := rent_neq e e w
              rw [decide_eq_true rfl] at h
              exact h
            clear hD2 HFD HKD HED
            refine Late.region_goes (fun V => But (fun _ => False) wr.drew.drew V) (fun _ => false) (by kernel_rfl) ?_ (fun hH => ?_)
            · exact But.refl _ _
            refine Late.Goes.takeT (i := 0) (v := ?_) (by simp only [List.getElem?_toArray, List.getElem?_cons_succ, List.getElem?_cons_zero]; rfl) (by kernel_rfl) (by kernel_rfl) (by kernel_rfl) (by kernel_rfl) (by kernel_rfl) (by exact fun _ _ _ h => h) (Or.inl ⟨by rfl, ?_⟩) hH ?_
            rotate_left
            · (intro wy hSw; (try dsimp only at hSw); have k0 := HC0.out wy hSw; have k1 := HC1.out wy hSw; have k2 := HU.out wy hSw; go_simp; try (with_reducible rfl))
            try simp only [Act.put, List.setIfInBounds_toArray, List.set_cons_zero, List.set_cons_succ]
            refine Late.Goes.takeT (i := 1) (v := ?_) (by simp only [List.getElem?_toArray, List.getElem?_cons_succ, List.getElem?_cons_zero]; rfl) (by kernel_rfl) (by kernel_rfl) (by kernel_rfl) (by kernel_rfl) (by kernel_rfl) (by exact fun _ _ _ h => h) (Or.inl ⟨by rfl, ?_⟩) hH ?_
            rotate_left
            · (intro wy hSw; (try dsimp only at hSw); have k0 := HC0.out wy hSw; have k1 := HC1.out wy hSw; have k2 := HU.out wy hSw; go_simp; try (with_reducible rfl))
            try simp only [Act.put, List.setIfInBounds_toArray, List.set_cons_zero, List.set_cons_succ]
            refine Late.Goes.takeT (i := 2) (v := ?_) (by simp only [List.getElem?_toArray, List.getElem?_cons_succ, List.getElem?_cons_zero]; rfl) (by kernel_rfl) (by kernel_rfl) (by kernel_rfl) (by kernel_rfl) (by kernel_rfl) (by exact fun _ _ _ h => h) (Or.inl ⟨by rfl, ?_⟩) hH ?_
            rotate_left
            · (intro wy hSw; (try dsimp only at hSw); have k0 := HC0.out wy hSw; have k1 := HC1.out wy hSw; have k2 := HU.out wy hSw; go_simp; try (with_reducible rfl))
            try simp only [Act.put, List.setIfInBounds_toArray, List.set_cons_zero, List.set_cons_succ]
            refine Late.Goes.takeT (i := 3) (v := ?_) (by simp only [List.getElem?_toArray, List.getElem?_cons_succ, List.getElem?_cons_zero]; rfl) (by kernel_rfl) (by kernel_rfl) (by kernel_rfl) (by kernel_rfl) (by kernel_rfl) (by exact fun _ _ _ h => h) (Or.inl ⟨by rfl, ?_⟩) hH ?_
            rotate_left
            · (intro wy hSw; (try dsimp only at hSw); have k0 := HC0.out wy hSw; have k1 := HC1.out wy hSw; have k2 := HU.out wy hSw; go_simp; try (with_reducible rfl))
            try simp only [Act.put, List.setIfInBounds_toArray, List.set_cons_zero, List.set_cons_succ]
            refine Late.Goes.takeT (i := 4) (v := ?_) (by simp only [List.getElem?_toArray, List.getElem?_cons_succ, List.getElem?_cons_zero]; rfl) (by kernel_rfl) (by kernel_rfl) (by kernel_rfl) (by kernel_rfl) (by kernel_rfl) (by exact fun _ _ _ h => h) (Or.inl ⟨by rfl, ?_⟩) hH ?_
            rotate_left
            · (intro wy hSw; (try dsimp only at hSw); have k0 := HC0.out wy hSw; have k1 := HC1.out wy hSw; have k2 := HU.out wy hSw; go_simp; try (with_reducible rfl))
            try simp only [Act.put, List.setIfInBounds_toArray, List.set_cons_zero, List.set_cons_succ]
            refine Late.Goes.takeT (i := 5) (v := ?_) (by simp only [List.getElem?_toArray, List.getElem?_cons_succ, List.getElem?_cons_zero]; rfl) (by kernel_rfl) (by kernel_rfl) (by kernel_rfl) (by kernel_rfl) (by kernel_rfl) (by exact fun _ _ _ h => h) (Or.inl ⟨by rfl, ?_⟩) hH ?_
            rotate_left
            · (intro wy hSw; (try dsimp only at hSw); have k0 := HC0.out wy hSw; have k1 := HC1.out wy hSw; have k2 := HU.out wy hSw; go_simp; try (with_reducible rfl))
            try simp only [Act.put, List.setIfInBounds_toArray, List.set_cons_zero, List.set_cons_succ]
            refine Late.Goes.takeT (i := 6) (v := ?_) (by simp only [List.getElem?_toArray, List.getElem?_cons_succ, List.getElem?_cons_zero]; rfl) (by kernel_rfl) (by kernel_rfl) (by kernel_rfl) (by kernel_rfl) (by kernel_rfl) (by exact fun _ _ _ h => h) (Or.inl ⟨by rfl, ?_⟩) hH ?_
            rotate_left
            · (intro wy hSw; (try dsimp only at hSw); have k0 := HC0.out wy hSw; have k1 := HC1.out wy hSw; have k2 := HU.out wy hSw; go_simp; try (with_reducible rfl))
            try simp only [Act.put, List.setIfInBounds_toArray, List.set_cons_zero, List.set_cons_succ]
            refine Late.Goes.takeT (i := 7) (v := ?_) (by simp only [List.getElem?_toArray, List.getElem?_cons_succ, List.getElem?_cons_zero]; rfl) (by kernel_rfl) (by kernel_rfl) (by kernel_rfl) (by kernel_rfl) (by kernel_rfl) (by exact fun _ _ _ h => h) (Or.inl ⟨by rfl, ?_⟩) hH ?_
            rotate_left
            · (intro wy hSw; (try dsimp only at hSw); have k0 := HC0.out wy hSw; have k1 := HC1.out wy hSw; have k2 := HU.out wy hSw; go_simp; try (with_reducible rfl))
            try simp only [Act.put, List.setIfInBounds_toArray, List.set_cons_zero, List.set_cons_succ]
            refine Late.Goes.takeT (i := 8) (v := ?_) (by simp only [List.getElem?_toArray, List.getElem?_cons_succ, List.getElem?_cons_zero]; rfl) (by kernel_rfl) (by kernel_rfl) (by kernel_rfl) (by kernel_rfl) (by kernel_rfl) (by exact fun _ _ _ h => h) (Or.inl ⟨by rfl, ?_⟩) hH ?_
            rotate_left
            · (intro wy hSw; (try dsimp only at hSw); have k0 := HC0.out wy hSw; have k1 := HC1.out wy hSw; have k2 := HU.out wy hSw; go_simp; try (with_reducible rfl))
            try simp only [Act.put, List.setIfInBounds_toArray, List.set_cons_zero, List.set_cons_succ]
            refine Late.Goes.takeT (i := 9) (v := ?_) (by simp only [List.getElem?_toArray, List.getElem?_cons_succ, List.getElem?_cons_zero]; rfl) (by kernel_rfl) (by kernel_rfl) (by kernel_rfl) (by kernel_rfl) (by kernel_rfl) (by exact fun _ _ _ h => h) (Or.inl ⟨by rfl, ?_⟩) hH ?_
            rotate_left
            · (intro wy hSw; (try dsimp only at hSw); have k0 := HC0.out wy hSw; have k1 := HC1.out wy hSw; have k2 := HU.out wy hSw; go_simp; try (with_reducible rfl))
            try simp only [Act.put, List.setIfInBounds_toArray, List.set_cons_zero, List.set_cons_succ]
            refine Late.Goes.takeT (i := 10) (v := ?_) (by simp only [List.getElem?_toArray, List.getElem?_cons_succ, List.getElem?_cons_zero]; rfl) (by kernel_rfl) (by kernel_rfl) (by kernel_rfl) (by kernel_rfl) (by kernel_rfl) (by exact fun _ _ _ h => h) (Or.inl ⟨by rfl, ?_⟩) hH ?_
            rotate_left
            · (intro wy hSw; (try dsimp only at hSw); have k0 := HC0.out wy hSw; have k1 := HC1.out wy hSw; have k2 := HU.out wy hSw; go_simp; try (with_reducible rfl))
            try simp only [Act.put, List.setIfInBounds_toArray, List.set_cons_zero, List.set_cons_succ]
            refine Late.Goes.takeT (i := 11) (v := ?_) (by simp only [List.getElem?_toArray, List.getElem?_cons_succ, List.getElem?_cons_zero]; rfl) (by kernel_rfl) (by kernel_rfl) (by kernel_rfl) (by kernel_rfl) (by kernel_rfl) (by exact fun _ _ _ h => h) (Or.inl ⟨by rfl, ?_⟩) hH ?_
            rotate_left
            · (intro wy hSw; (try dsimp only at hSw); have k0 := HC0.out wy hSw; have k1 := HC1.out wy hSw; have k2 := HU.out wy hSw; go_simp; try (with_reducible rfl))
            try simp only [Act.put, List.setIfInBounds_toArray, List.set_cons_zero, List.set_cons_succ]
            refine Late.Goes.takeT (i := 12) (v := ?_) (by simp only [List.getElem?_toArray, List.getElem?_cons_succ, List.getElem?_cons_zero]; rfl) (by kernel_rfl) (by kernel_rfl) (by kernel_rfl) (by kernel_rfl) (by kernel_rfl) (by exact fun _ _ _ h => h) (Or.inl ⟨by rfl, ?_⟩) hH ?_
            rotate_left
            · (intro wy hSw; (try dsimp only at hSw); have k0 := HC0.out wy hSw; have k1 := HC1.out wy hSw; have k2 := HU.out wy hSw; go_simp; try (with_reducible rfl))
            try simp only [Act.put, List.setIfInBounds_toArray, List.set_cons_zero, List.set_cons_succ]
            refine Late.Goes.takeT (i := 13) (v := ?_) (by simp only [List.getElem?_toArray, List.getElem?_cons_succ, List.getElem?_cons_zero]; rfl) (by kernel_rfl) (by kernel_rfl) (by kernel_rfl) (by kernel_rfl) (by kernel_rfl) (by exact fun _ _ _ h => h) (Or.inl ⟨by rfl, ?_⟩) hH ?_
            rotate_left
            · (intro wy hSw; (try dsimp only at hSw); have k0 := HC0.out wy hSw; have k1 := HC1.out wy hSw; have k2 := HU.out wy hSw; go_simp; try (with_reducible rfl))
            try simp only [Act.put, List.setIfInBounds_toArray, List.set_cons_zero, List.set_cons_succ]
            refine Late.Goes.takeT (i := 14) (v := ?_) (by simp only [List.getElem?_toArray, List.getElem?_cons_succ, List.getElem?_cons_zero]; rfl) (by kernel_rfl) (by kernel_rfl) (by kernel_rfl) (by kernel_rfl) (by kernel_rfl) (by exact fun _ _ _ h => h) (Or.inl ⟨by rfl, ?_⟩) hH ?_
            rotate_left
            · (intro wy hSw; (try dsimp only at hSw); have k0 := HC0.out wy hSw; have k1 := HC1.out wy hSw; have k2 := HU.out wy hSw; go_simp; try (with_reducible rfl))
            try simp only [Act.put, List.setIfInBounds_toArray, List.set_cons_zero, List.set_cons_succ]
            refine Late.Goes.takeT (i := 15) (v := _) (by simp only [List.getElem?_toArray, List.getElem?_cons_succ, List.getElem?_cons_zero]; rfl) (by kernel_rfl) (by kernel_rfl) (by kernel_rfl) (by kernel_rfl) (by kernel_rfl) (by exact fun _ _ _ h => h) (yields_rentryX (by rfl) _ rfl gl (f5 * 7) rfl e (fun V hV => (HK6.out.step_but hV (fun j hj h => h)).ref.range (HK6.out.ref.same f5 e HLK.out))) hH ?_
            try simp only [Act.put, List.setIfInBounds_toArray, List.set_cons_zero, List.set_cons_succ]
            refine Late.Goes.takeT (i := 16) (v := ?_) (by simp only [List.getElem?_toArray, List.getElem?_cons_succ, List.getElem?_cons_zero]; rfl) (by kernel_rfl) (by kernel_rfl) (by kernel_rfl) (by kernel_rfl) (by kernel_rfl) (by exact fun _ _ _ h => h) (Or.inl ⟨by rfl, ?_⟩) hH ?_
            rotate_left
            · (intro wy hSw; (try dsimp only at hSw); have k0 := HC0.out wy hSw; have k1 := HC1.out wy hSw; have k2 := HU.out wy hSw; go_simp; try (with_reducible rfl))
            try simp only [Act.put, List.setIfInBounds_toArray, List.set_cons_zero, List.set_cons_succ]
            refine Late.Goes.takeT (i := 17) (v := ?_) (by simp only [List.getElem?_toArray, List.getElem?_cons_succ, List.getElem?_cons_zero]; rfl) (by kernel_rfl) (by kernel_rfl) (by kernel_rfl) (by kernel_rfl) (by kernel_rfl) (by exact fun _ _ _ h => h) (Or.inl ⟨by rfl, ?_⟩) hH ?_
            rotate_left
            · (intro wy hSw; (try dsimp only at hSw); have k0 := HC0.out wy hSw; have k1 := HC1.out wy hSw; have k2 := HU.out wy hSw; go_simp; try (with_reducible rfl))
            try simp only [Act.put, List.setIfInBounds_toArray, List.set_cons_zero, List.set_cons_succ]
            refine Late.Goes.takeT (i := 18) (v := ?_) (by simp only [List.getElem?_toArray, List.getElem?_cons_succ, List.getElem?_cons_zero]; rfl) (by kernel_rfl) (by kernel_rfl) (by kernel_rfl) (by kernel_rfl) (by kernel_rfl) (by exact fun _ _ _ h => h) (Or.inl ⟨by rfl, ?_⟩) hH ?_
            rotate_left
            · (intro wy hSw; (try dsimp only at hSw); have k0 := HC0.out wy hSw; have k1 := HC1.out wy hSw; have k2 := HU.out wy hSw; go_simp; try (with_reducible rfl))
            try simp only [Act.put, List.setIfInBounds_toArray, List.set_cons_zero, List.set_cons_succ]
            refine Late.Goes.takeT (i := 19) (v := _) (by simp only [List.getElem?_toArray, List.getElem?_cons_succ, List.getElem?_cons_zero]; rfl) (by kernel_rfl) (by kernel_rfl) (by kernel_rfl) (by kernel_rfl) (by kernel_rfl) (by exact fun _ _ _ h => h) (yields_entryX (by rfl) _ rfl g4 ((i + 1) * 7) rfl e (fun V hV => HRG.out V (HE6.out.but hV))) hH ?_
            try simp only [Act.put, List.setIfInBounds_toArray, List.set_cons_zero, List.set_cons_succ]
            refine Late.Goes.one (i := 20) (by kernel_rfl) (by simp only [List.getElem?_toArray, List.getElem?_cons_succ, List.getElem?_cons_zero]; rfl) (fun K hK => ?_)
            clear hH
            go_simp
            go_at_call 12
            refine (as_any e wr.drew.drew).mono ?_
            rintro e1 w5 ⟨rfl, hB5⟩
            have HB5 := Lib.hid hB5
            clear hB5
            refine hK.out _ _ ?_ (fun hH => ?_)
            · exact fun _ => HB5.out
            clear hK K
            have hH := hH rfl
            try simp only [Act.put, List.setIfInBounds_toArray, List.set_cons_zero, List.set_cons_succ]
            refine Late.Goes.takeT (i := 21) (v := ?_) (by simp only [List.getElem?_toArray, List.getElem?_cons_succ, List.getElem?_cons_zero]; rfl) (by kernel_rfl) (by kernel_rfl) (by kernel_rfl) (by kernel_rfl) (by kernel_rfl) (by exact fun _ _ _ h => h) (Or.inl ⟨by rfl, ?_⟩) hH ?_
            rotate_left
            · (intro wy hSw; (try dsimp only at hSw); have k0 := HC0.out wy hSw; have k1 := HC1.out wy hSw; have k2 := HU.out wy hSw; go_simp; try (with_reducible rfl))
            try simp only [Act.put, List.setIfInBounds_toArray, List.set_cons_zero, List.set_cons_succ]
            refine Late.Goes.takeT (i := 22) (v := ?_) (by simp only [List.getElem?_toArray, List.getElem?_cons_succ, List.getElem?_cons_zero]; rfl) (by kernel_rfl) (by kernel_rfl) (by kernel_rfl) (by kernel_rfl) (by kernel_rfl) (by exact fun _ _ _ h => h) (Or.inl ⟨by rfl, ?_⟩) hH ?_
            rotate_left
            · (intro wy hSw; (try dsimp only at hSw); have k0 := HC0.out wy hSw; have k1 := HC1.out wy hSw; have k2 := HU.out wy hSw; go_simp; try (with_reducible rfl))
            try simp only [Act.put, List.setIfInBounds_toArray, List.set_cons_zero, List.set_cons_succ]
            refine Late.Goes.done (by kernel_rfl) ?_ _
            have HK7 := Lib.hid (HK6.out.step_but HB5.out (fun j hj h => h))
            have HE7 := Lib.hid (HE6.out.but HB5.out)
            go_wp2_with fail
            go_roundw
            case rel => exact ⟨i + 1 + 1, by omega, by go_num, HK7.out, HE7.out⟩
            case measure => simp [intOf]; omega
        · have hjN : j = N := by omega
          have HRLN := Lib.hid (rlen_any hK.ref)
          rw [← HLL.out, ← HNL.out] at HRLN
          have HKZ := Lib.hid hK
          clear hK hE
          go_wp2_with fail
          refine HRLN.out.mono ?_
          rintro e w' ⟨rfl, rfl⟩
          go_wp2_with fail
          go_ret
          exact ⟨rfl, HKZ.out.but⟩
end Go.Proofs.YtabclecfamkanaaDoor.Key

/- In one text: The document's Bytes: the walk for the tags of one class. The document's Bytes: the walk for the tags of one class. The document's Bytes: the walk for the tags of one class. -/
import Derived.Test.YtbdbbnpkekcefaaCmdRBytesKit
namespace Go.Proofs.Ytbdbbnpkekcefaa.Cmd
open Go.Proofs.Ytbdbbnpkekcefaa.Mem Go.Proofs.Ytbdbbnpkekcefaa.Pack
open Go.ChangeShapes Go.WideShapes Go.ChangeAt Go.RowKit
set_option linter.unusedVariables false
set_option linter.unusedSimpArgs false

set_option maxRecDepth 100000 in
set_option maxHeartbeats 8000000 in
theorem rbytes_e (tag : Int) (h : tag = 9) (admin : Nat) (bucket qk qb qg tb : Int) (tg ts tx : Nat) (ops : List Op) (after : ByteArray) (first : Bool) (count rights : Int) (serial : Nat) (sv : Value) (W : World)
    (hadm : admin < 18446744073709551616) (htok : TokSo ⟨tb, tg, ts, tx⟩) (hser : serial < 4294967296) (haf : after.size ≤ 65535) (hsm : Small ops) (hops : OpsAt W sv ops) (q : Rq) (hq : q = ⟨tag, admin, bucket, ⟨qk, qb, qg⟩, ⟨tb, tg, ts, tx⟩, ops, after, first, count, rights, serial⟩) : Calls Try.prog 32 #[rv q sv] W fun e w' => RBytesIs q W e w' := by
  obtain ⟨i0, hi0, hz0, hz1, hz2⟩ := info_parts u8_info
  obtain ⟨a, cap, rfl, hx⟩ := hops
  have hw0 := wrap_u8 tag
  have t5 : decide (tag ≤ 5) = false := by simp; omega
  have t3 : decide (tag ≤ 3) = false := by simp; omega
  have q1 : (tag == 1) = false := by exact beq_eq_false_iff_ne.2 (by omega)
  have q3 : (tag == 3) = false := by exact beq_eq_false_iff_ne.2 (by omega)
  have q9 : (tag == 9) = true := by exact beq_iff_eq.2 h
  have q10 : (tag == 10) = false := by exact beq_eq_false_iff_ne.2 (by omega)
  have q12 : (tag == 12) = false := by exact beq_eq_false_iff_ne.2 (by omega)
  have q13 : (tag == 13) = false := by exact beq_eq_false_iff_ne.2 (by omega)
  have n7 : (tag != 7) = true := by exact bne_iff_ne.2 (by omega)
  have HP := Lib.hid (show ((tag ≤ 5) = False) ∧ ((tag ≤ 3) = False) ∧ ((tag = 1) = False) ∧ ((tag = 3) = False) ∧ ((tag = 9) = True) ∧ ((tag = 10) = False) ∧ ((tag = 12) = False) ∧ ((tag = 13) = False) ∧ ((tag = 7) = False) by refine ⟨?_, ?_, ?_, ?_, ?_, ?_, ?_, ?_, ?_⟩ <;> simp <;> omega)
  have hfew := hsm.few
  obtain ⟨XS, hXS⟩ : ∃ X, X = [tag % 256] ++ putTok ⟨tb, tg, ts, tx⟩ ++ [((ops.length % 256 : Nat) : Int)] := ⟨_, rfl⟩
  have HREF := Lib.hid (show refBytes q = XS ++ ops.flatMap (putOne tag) by
    obtain ⟨p5, p3, p1, p3', p9, p10, p12, p13, p7⟩ := HP.out
    rw [hq, hXS]
    unfold refBytes refMore
    simp only [u64_byte, p5, p3, p1, p3', p9, p10, p12, p13, if_true, if_false, or_true, true_or, or_self, false_or, or_false, List.append_assoc, List.nil_append, putQuo, flag]
    try simp only [put_byte]
    try rfl)
  obtain ⟨LN, hLN⟩ : ∃ n, n = 1 + 17 + 1 := ⟨_, rfl⟩
  have HXS := Lib.hid (And.intro hXS hLN)
  have hLNle : LN ≤ 100000 := by omega
  have HX := Lib.hid hx
  have HSM := Lib.hid hsm
  have hn1 : IntKind.u8.wrap (ops.length : Int) = ((ops.length % 256 : Nat) : Int) := by rw [wrap_u8]; omega
  have hwb := wrap_u8 bucket
  have hwc := wrap_u8 count
  have hwr := wrap_u8 rights
  have hwk := wrap_u64 qk
  have hwq := wrap_u64 qb
  have hwg := wrap_u64 qg
  have hws := wrap_u64_nat (n := serial) (by omega)
  have hkl := u64_lt qk
  have hbl := u64_lt qb
  have hgl := u64_lt qg
  have HHT := Lib.hid (show 39 ≠ 5 by decide)
  have HHO := Lib.hid (show 83 ≠ 5 by decide)
  have hg1 := rgo_start W 39 #[.int .i64 tag, .int .u64 (admin : Int), .int .i64 bucket, .int .i64 qk, .int .i64 qb, .int .i64 qg, .int .i64 tb, .int .u32 (tg : Int), .int .u32 (ts : Int), .int .u64 (tx : Int), .slice a ops.length cap, .string after, .bool first, .int .i64 count, .int .i64 rights, .int .u32 (serial : Int)] (tag % 256)
  have HQ := Lib.hid hq
  rw [hq]
  clear hx hXS hLN hq hsm h
  unfold rv rcells
  have d0 := hg1.cell 0 rfl
  have d6 := hg1.cell 6 rfl
  have d7 := hg1.cell 7 rfl
  have d8 := hg1.cell 8 rfl
  have d9 := hg1.cell 9 rfl
  go_enter Try.func32, Try.ntmps32
  go_wp2_with fail
  clear d0 d6 d7 d8 d9
  refine (rtoken_any ⟨tb, tg, ts, tx⟩ htok _ _ _ W.heap.size _ hg1.own hg1.size (by omega)).mono ?_
  rintro e w2 ⟨v2, rfl, ho, hon⟩
  have hg2 := hg1.step HHT.out ho hon
  have c0 := hg2.cell 0 rfl
  have c10 := hg2.cell 10 rfl
  clear ho hon hg1
  go_wp2_with (at_builtin; refine wpList_append_onto rfl (.tmp 55) (.tmp 60) _ rfl W.heap.size 5 i0 _ 1 1 Try.underlying22 hi0 hz0 hz1 hz2 rfl (by omega) v2 _ (cellsOf _) rfl (ownsRow_alloc hg2.own _) _ 1 _ rfl (sees_one _ _ _ _) (by simp [Value.oneCell']) (by simp only [maxLen]; omega) (by omega) (by have := hg2.size; simp at this ⊢; omega) ?_; intro v2 w2 ho2 hon2; refine Hid.out ?_)
  refine Lib.hid ?_
  clear c0 c10
  have hg3 := hg2.app HHT.out ho2 hon2
  clear ho2 hon2 hg2
  have HG := Lib.hid (hg3.eq (len' := LN) (ys := XS) (by rw [HXS.out.2]; try omega) (by rw [HXS.out.1]; try simp [List.append_assoc]))
  clear hg3
  go_wp2_with fail
  go_loopw [3, 4] (fun s i wr => ∃ k : Nat, k ≤ ops.length ∧ i = .int .i64 (k : Int) ∧ RGo W W.heap.size W.heap.size 39 #[.int .i64 tag, .int .u64 (admin : Int), .int .i64 bucket, .int .i64 qk, .int .i64 qb, .int .i64 qg, .int .i64 tb, .int .u32 (tg : Int), .int .u32 (ts : Int), .int .u64 (tx : Int), .slice a ops.length cap, .string after, .bool first, .int .i64 count, .int .i64 rights, .int .u32 (serial : Int)] wr s (LN + ((ops.take k).flatMap (putOne tag)).length) (XS ++ (ops.take k).flatMap (putOne tag))) (fun _ i _ => ops.length - (intOf i).toNat)
  case atStart => exact ⟨0, Nat.zero_le _, rfl, HG.out.eq (by simp) (by simp)⟩
  case round =>
    obtain ⟨k, hk, rfl, hg⟩ := hrel
    have hle := ops_take_le (tag := tag) HSM.out k
    have hle' : ((ops.take k).flatMap (putOne tag)).length ≤ 131091000 := Nat.le_trans hle (by omega)
    obtain ⟨m, hm⟩ : ∃ m, m = ((ops.take k).flatMap (putOne tag)).length := ⟨_, rfl⟩
    rw [← hm] at hg hle'
    have HM := Lib.hid hm
    have c10 := hg.cell 10 rfl
    clear hm hle HG
    by_cases hlt : k < ops.length
    · obtain ⟨b, off, rfl, hblt, hc⟩ := HX.out (show 0 < ops.length by omega)
      obtain ⟨⟨del, key, val, cond, ttl⟩, hoe⟩ : ∃ o, o = ops[k] := ⟨_, rfl⟩
      have hmem : (⟨del, key, val, cond, ttl⟩ : Op) ∈ ops := hoe ▸ List.getElem_mem hlt
      have hkey : key.size ≤ 65535 := HSM.out.key _ hmem
      have hval : val.size ≤ 65535 := HSM.out.val _ hmem
      have hcond : cond < 18446744073709551616 := (HSM.out.is_ _ hmem).cond
      have httl : ttl < 18446744073709551616 := (HSM.out.is_ _ hmem).ttl
      have hcr : ∀ i (h : i < ops.length) j u, (ocells ops[i])[j]? = some u → wr.cell? ⟨b, off + i * 5 + j, none⟩ = some u := fun i hi j u hu => (hg.below.cell (p := ⟨b, off + i * 5 + j, none⟩) hblt).trans (hc i hi j u hu)
      obtain ⟨e0, e1, e2, e3, e4⟩ := OpsAt.cells hcr hlt hoe
      have HOE := Lib.hid (And.intro hoe (ops_snoc tag ops k hlt))
      have hgA := hg.alloc (.cells #[.bool del, .string key, .string val, .int .u64 (cond : Int), .int .u64 (ttl : Int)] 83)
      have hgB := hg.two 83 #[.bool del, .string key, .string val, .int .u64 (cond : Int), .int .u64 (ttl : Int)]
      have d0 := hgA.cell 0 rfl
      have x0 := hgB.cell 0 rfl
      have HGA := Lib.hid hgA
      have HGB := Lib.hid hgB
      clear hoe hmem hc hcr hg hgA hgB
      simp only at e0 e1 e2 e3 e4
      go_wp2_with fail
      clear e0 e1 e2 e3 e4 c10
      obtain ⟨bt, hbt⟩ : ∃ z : Int, (if del then (1 : Int) else 0) = z := ⟨_, rfl⟩
      have HBT := Lib.hid hbt
      have HFL := Lib.hid (show flag del = [bt] by rw [← hbt]; cases del <;> rfl)
      clear hbt
      refine (bit_let del bt HBT.out _).mono ?_
      rintro e w5 ⟨rfl, rfl⟩
      have hgA := HGA.out
      have hgB := HGB.out
      clear HGA HGB d0 x0
      generalize wr.alloc (.cells #[.bool del, .string key, .string val, .int .u64 (cond : Int), .int .u64 (ttl : Int)] 83) = W5 at hgA hgB ⊢
      go_wp2_with (at_builtin; refine wpList_append_onto rfl (.tmp 107) (.tmp 111) _ rfl W.heap.size 5 i0 _ 1 1 Try.underlying22 hi0 hz0 hz1 hz2 rfl (by omega) _ _ (cellsOf _) rfl (ownsRow_alloc hgA.own _) _ 1 _ rfl (sees_one _ _ _ _) (by simp [Value.oneCell']) (by simp only [maxLen]; omega) (by omega) (by have := hgA.size; simp at this ⊢; omega) ?_; intro v2 w2 ho2 hon2; refine Hid.out ?_)
      refine Lib.hid ?_
      have hgC := hgA.app HHT.out ho2 hon2
      have hgD := hgB.app HHO.out ho2 hon2
      have x1 := hgD.cell 1 rfl
      clear ho2 hon2 hgA hgB
      have HGC := Lib.hid hgC
      have HGD := Lib.hid hgD
      clear hgC hgD
      go_wp2_with fail
      clear x1
      refine (rtext_grown key hkey _ _ _ W.heap.size _ HGC.out.own HGC.out.size (by omega)).mono ?_
      rintro e w6 ⟨v6, rfl, ho, hon⟩
      have hgE := HGC.out.grown HHT.out ho hon
      have hgF := HGD.out.grown HHO.out ho hon
      have d0 := hgE.cell 0 rfl
      have x3 := hgF.cell 3 rfl
      have HGE := Lib.hid hgE
      have HGF := Lib.hid hgF
      clear ho hon hgE hgF
      go_wp2_with fail
      clear d0 x3
      refine (refPut_any cond hcond 8 (by omega) _ _ _ W.heap.size _ HGE.out.own HGE.out.size (by omega)).mono ?_
      rintro e w7 ⟨v7, rfl, ho, hon⟩
      have hgG := HGE.out.step HHT.out ho hon
      have hgH := HGF.out.step HHO.out ho hon
      have x0 := hgH.cell 0 rfl
      have HGG := Lib.hid hgG
      have HGH := Lib.hid (hgH.same ((But.refl (fun _ => False) w7).drew))
      have HGI := Lib.hid (hgG.same ((But.refl (fun _ => False) w7).drew))
      have HC := Lib.hid (And.intro (show w7.drew.cell? ⟨wr.heap.size, 2, none⟩ = some (.string val) from HGH.out.cell 2 rfl) (show w7.drew.cell? ⟨wr.heap.size, 4, none⟩ = some (.int .u64 (ttl : Int)) from HGH.out.cell 4 rfl))
      clear ho hon hgG hgH
      cases del
      · go_wp2_with fail
        clear x0
        refine Late.region_goes (fun V => V.cell? ⟨wr.heap.size, 2, none⟩ = some (.string val) ∧ V.cell? ⟨wr.heap.size, 4, none⟩ = some (.int .u64 (ttl : Int))) (fun i => Nat.ble 6 i) (by kernel_rfl) ?_ (fun hH => ?_)
        · exact HC.out
        refine Late.Goes.takeT (i := 0) (v := ?_) (by simp only [List.getElem?_toArray, List.getElem?_cons_succ, List.getElem?_cons_zero]; rfl) (by kernel_rfl) (by kernel_rfl) (by kernel_rfl) (by kernel_rfl) (by kernel_rfl) (by exact fun _ _ _ h => h) (Or.inl ⟨by rfl, ?_⟩) hH ?_
        rotate_left
        · (intro wy hSw; (try dsimp only at hSw); have x2 := hSw.1; have x4 := hSw.2; go_simp; try (with_reducible rfl))
        try simp only [Act.put, List.setIfInBounds_toArray, List.set_cons_zero, List.set_cons_succ]
        refine Late.Goes.takeT (i := 1) (v := ?_) (by simp only [List.getElem?_toArray, List.getElem?_cons_succ, List.getElem?_cons_zero]; rfl) (by kernel_rfl) (by kernel_rfl) (by kernel_rfl) (by kernel_rfl) (by kernel_rfl) (by exact fun _ _ _ h => h) (Or.inl ⟨by rfl, ?_⟩) hH ?_
        rotate_left
        · (intro wy hSw; (try dsimp only at hSw); have x2 := hSw.1; have x4 := hSw.2; go_simp; try (with_reducible rfl))
        try simp only [Act.put, List.setIfInBounds_toArray, List.set_cons_zero, List.set_cons_succ]
        refine Late.Goes.takeT (i := 2) (v := ?_) (by simp only [List.getElem?_toArray, List.getElem?_cons_succ, List.getElem?_cons_zero]; rfl) (by kernel_rfl) (by kernel_rfl) (by kernel_rfl) (by kernel_rfl) (by kernel_rfl) (by exact fun _ _ _ h => h) (Or.inl ⟨by rfl, ?_⟩) hH ?_
        rotate_left
        · (intro wy hSw; (try dsimp only at hSw); have x2 := hSw.1; have x4 := hSw.2; go_simp; try (with_reducible rfl))
        try simp only [Act.put, List.setIfInBounds_toArray, List.set_cons_zero, List.set_cons_succ]
        refine Late.Goes.takeT (i := 4) (v := ?_) (by simp only [List.getElem?_toArray, List.getElem?_cons_succ, List.getElem?_cons_zero]; rfl) (by kernel_rfl) (by kernel_rfl) (by kernel_rfl) (by kernel_rfl) (by kernel_rfl) (by exact fun _ _ _ h => h) (Or.inl ⟨by rfl, ?_⟩) hH ?_
        rotate_left
        · (intro wy hSw; (try dsimp only at hSw); have x2 := hSw.1; have x4 := hSw.2; go_simp; try (with_reducible rfl))
        try simp only [Act.put, List.setIfInBounds_toArray, List.set_cons_zero, List.set_cons_succ]
        refine Late.Goes.takeT (i := 5) (v := ?_) (by simp only [List.getElem?_toArray, List.getElem?_cons_succ, List.getElem?_cons_zero]; rfl) (by kernel_rfl) (by kernel_rfl) (by kernel_rfl) (by kernel_rfl) (by kernel_rfl) (by exact fun _ _ _ h => h) (Or.inl ⟨by rfl, ?_⟩) hH ?_
        rotate_left
        · (intro wy hSw; (try dsimp only at hSw); have x2 := hSw.1; have x4 := hSw.2; go_simp; try (with_reducible rfl))
        try simp only [Act.put, List.setIfInBounds_toArray, List.set_cons_zero, List.set_cons_succ]
        refine Late.Goes.one (i := 3) (by kernel_rfl) (by simp only [List.getElem?_toArray, List.getElem?_cons_succ, List.getElem?_cons_zero]; rfl) (fun K hK => ?_)
        clear hH
        go_simp
        go_at_call 37
        refine (rtext_grown val hval _ _ _ W.heap.size _ HGI.out.own HGI.out.size (by omega)).mono ?_
        rintro e w8 ⟨v8, rfl, ho, hon⟩
        have hgJ := HGI.out.grown HHT.out ho hon
        have hgK := HGH.out.grown HHO.out ho hon
        have HC2 := Lib.hid (And.intro (show w8.cell? ⟨wr.heap.size, 2, none⟩ = some (.string val) from hgK.cell 2 rfl) (show w8.cell? ⟨wr.heap.size, 4, none⟩ = some (.int .u64 (ttl : Int)) from hgK.cell 4 rfl))
        have HGJ := Lib.hid hgJ
        clear ho hon hgJ hgK
        refine hK.out _ _ ?_ (fun hH => ?_)
        · exact fun _ => HC2.out
        clear hK K
        have hH := hH rfl
        try simp only [Act.put, List.setIfInBounds_toArray, List.set_cons_zero, List.set_cons_succ]
        refine Late.Goes.one (i := 6) (by kernel_rfl) (by simp only [List.getElem?_toArray, List.getElem?_cons_succ, List.getElem?_cons_zero]; rfl) (fun K hK => ?_)
        clear hH
        go_simp
        go_at_call 36
        refine (refPut_any ttl httl 8 (by omega) _ _ _ W.heap.size _ HGJ.out.own HGJ.out.size (by omega)).mono ?_
        rintro e w9 ⟨v9, rfl, ho, hon⟩
        have HGL := Lib.hid (HGJ.out.step HHT.out ho hon)
        clear ho hon
        refine hK.out _ _ ?_ (fun _ => ?_)
        · exact (fun h => by cases h)
        clear hK K
        try simp only [Act.put, List.setIfInBounds_toArray, List.set_cons_zero, List.set_cons_succ]
        refine Late.Goes.one (i := 7) (by kernel_rfl) (by simp only [List.getElem?_toArray, List.getElem?_cons_succ, List.getElem?_cons_zero]; rfl) (fun K hK => ?_)
        clear hH
        go_simp
        refine hK.out _ _ ?_ (fun _ => ?_)
        · exact (fun h => by cases h)
        clear hK K
        try simp only [Act.put, List.setIfInBounds_toArray, List.set_cons_zero, List.set_cons_succ]
        refine Late.Goes.done (by kernel_rfl) ?_ _
        go_wp2_with fail
        go_roundw
        case rel =>
          obtain ⟨p5, p3, p1, p3', p9, p10, p12, p13, p7⟩ := HP.out
          refine ⟨k + 1, by omega, by go_num, HGL.out.eq ?_ ?_⟩
          · rw [HOE.out.2, ← HOE.out.1, List.length_append, ← HM.out]
            simp only [putOne, putOp, p9, p7, if_true, if_false, HFL.out, List.length_append, List.nil_append, List.length_nil, List.length_singleton, List.append_nil, text_length, put_length, Bool.false_eq_true]
            try omega
          · rw [HOE.out.2, ← HOE.out.1]
            simp only [putOne, putOp, p9, p7, if_true, if_false, HFL.out, List.append_assoc, List.nil_append, List.append_nil, Bool.false_eq_true]
        case measure => simp [intOf]; omega
      · go_wp2_with fail
        clear x0
        go_roundw
        case rel =>
          obtain ⟨p5, p3, p1, p3', p9, p10, p12, p13, p7⟩ := HP.out
          refine ⟨k + 1, by omega, by go_num, HGG.out.eq ?_ ?_⟩
          · rw [HOE.out.2, ← HOE.out.1, List.length_append, ← HM.out]
            simp only [putOne, putOp, p9, p7, if_true, if_false, HFL.out, List.length_append, List.nil_append, List.length_nil, List.length_singleton, List.append_nil, text_length, put_length, Bool.false_eq_true]
            try omega
          · rw [HOE.out.2, ← HOE.out.1]
            simp only [putOne, putOp, p9, p7, if_true, if_false, HFL.out, List.append_assoc, List.nil_append, List.append_nil, Bool.false_eq_true]
        case measure => simp [intOf]; omega
    · have hkl' : k = ops.length := by omega
      subst hkl'
      have hall : ops.take ops.length = ops := List.take_of_length_le (Nat.le_refl _)
      have HF := Lib.hid (hg.eq (by rw [HM.out, hall]) (by rw [hall]))
      clear hall hg hlt hk
      go_wp2_with fail
      go_ret
      rw [← HQ.out]
      refine ⟨_, rfl, row_eq HF.out.own ?_ ?_, HF.out.below⟩
      · rw [HREF.out, List.length_append, HXS.out.1, HXS.out.2]
        simp [putTok, put_length, text_length]; try omega
      · rw [HREF.out]
end Go.Proofs.Ytbdbbnpkekcefaa.Cmd
namespace Go.Proofs.Ytbdbbnpkekcefaa.Cmd
open Go.Proofs.Ytbdbbnpkekcefaa.Mem Go.Proofs.Ytbdbbnpkekcefaa.Pack
open Go.ChangeShapes Go.WideShapes Go.ChangeAt Go.RowKit
set_option linter.unusedVariables false
set_option linter.unusedSimpArgs false

set_option maxRecDepth 100000 in
set_option maxHeartbeats 8000000 in
theorem rbytes_f (tag : Int) (h : tag = 6 ∨ tag = 8 ∨ tag = 11) (admin : Nat) (bucket qk qb qg tb : Int) (tg ts tx : Nat) (ops : List Op) (after : ByteArray) (first : Bool) (count rights : Int) (serial : Nat) (sv : Value) (W : World)
    (hadm : admin < 18446744073709551616) (htok : TokSo ⟨tb, tg, ts, tx⟩) (hser : serial < 4294967296) (haf : after.size ≤ 65535) (hsm : Small ops) (hops : OpsAt W sv ops) (q : Rq) (hq : q = ⟨tag, admin, bucket, ⟨qk, qb, qg⟩, ⟨tb, tg, ts, tx⟩, ops, after, first, count, rights, serial⟩) : Calls Try.prog 32 #[rv q sv] W fun e w' => RBytesIs q W e w' := by
  obtain ⟨i0, hi0, hz0, hz1, hz2⟩ := info_parts u8_info
  obtain ⟨a, cap, rfl, hx⟩ := hops
  have hw0 := wrap_u8 tag
  have t5 : decide (tag ≤ 5) = false := by simp; omega
  have t3 : decide (tag ≤ 3) = false := by simp; omega
  have q1 : (tag == 1) = false := by exact beq_eq_false_iff_ne.2 (by omega)
  have q3 : (tag == 3) = false := by exact beq_eq_false_iff_ne.2 (by omega)
  have q9 : (tag == 9) = false := by exact beq_eq_false_iff_ne.2 (by omega)
  have q10 : (tag == 10) = false := by exact beq_eq_false_iff_ne.2 (by omega)
  have q12 : (tag == 12) = false := by exact beq_eq_false_iff_ne.2 (by omega)
  have q13 : (tag == 13) = false := by exact beq_eq_false_iff_ne.2 (by omega)
  have n7 : (tag != 7) = true := by exact bne_iff_ne.2 (by omega)
  have HP := Lib.hid (show ((tag ≤ 5) = False) ∧ ((tag ≤ 3) = False) ∧ ((tag = 1) = False) ∧ ((tag = 3) = False) ∧ ((tag = 9) = False) ∧ ((tag = 10) = False) ∧ ((tag = 12) = False) ∧ ((tag = 13) = False) ∧ ((tag = 7) = False) by refine ⟨?_, ?_, ?_, ?_, ?_, ?_, ?_, ?_, ?_⟩ <;> simp <;> omega)
  have hfew := hsm.few
  obtain ⟨XS, hXS⟩ : ∃ X, X = [tag % 256] ++ putTok ⟨tb, tg, ts, tx⟩ := ⟨_, rfl⟩
  have HREF := Lib.hid (show refBytes q = XS ++ ops.flatMap (putOne tag) by
    obtain ⟨p5, p3, p1, p3', p9, p10, p12, p13, p7⟩ := HP.out
    rw [hq, hXS]
    unfold refBytes refMore
    simp only [u64_byte, p5, p3, p1, p3', p9, p10, p12, p13, if_true, if_false, or_true, true_or, or_self, false_or, or_false, List.append_assoc, List.nil_append, putQuo, flag]
    try simp only [put_byte]
    try rfl)
  obtain ⟨LN, hLN⟩ : ∃ n, n = 1 + 17 := ⟨_, rfl⟩
  have HXS := Lib.hid (And.intro hXS hLN)
  have hLNle : LN ≤ 100000 := by omega
  have HX := Lib.hid hx
  have HSM := Lib.hid hsm
  have hn1 : IntKind.u8.wrap (ops.length : Int) = ((ops.length % 256 : Nat) : Int) := by rw [wrap_u8]; omega
  have hwb := wrap_u8 bucket
  have hwc := wrap_u8 count
  have hwr := wrap_u8 rights
  have hwk := wrap_u64 qk
  have hwq := wrap_u64 qb
  have hwg := wrap_u64 qg
  have hws := wrap_u64_nat (n := serial) (by omega)
  have hkl := u64_lt qk
  have hbl := u64_lt qb
  have hgl := u64_lt qg
  have HHT := Lib.hid (show 39 ≠ 5 by decide)
  have HHO := Lib.hid (show 83 ≠ 5 by decide)
  have hg1 := rgo_start W 39 #[.int .i64 tag, .int .u64 (admin : Int), .int .i64 bucket, .int .i64 qk, .int .i64 qb, .int .i64 qg, .int .i64 tb, .int .u32 (tg : Int), .int .u32 (ts : Int), .int .u64 (tx : Int), .slice a ops.length cap, .string after, .bool first, .int .i64 count, .int .i64 rights, .int .u32 (serial : Int)] (tag % 256)
  have HQ := Lib.hid hq
  rw [hq]
  clear hx hXS hLN hq hsm h
  unfold rv rcells
  have d0 := hg1.cell 0 rfl
  have d6 := hg1.cell 6 rfl
  have d7 := hg1.cell 7 rfl
  have d8 := hg1.cell 8 rfl
  have d9 := hg1.cell 9 rfl
  go_enter Try.func32, Try.ntmps32
  go_wp2_with fail
  clear d0 d6 d7 d8 d9
  refine (rtoken_any ⟨tb, tg, ts, tx⟩ htok _ _ _ W.heap.size _ hg1.own hg1.size (by omega)).mono ?_
  rintro e w2 ⟨v2, rfl, ho, hon⟩
  have hg2 := hg1.step HHT.out ho hon
  have c0 := hg2.cell 0 rfl
  clear ho hon hg1
  have HG := Lib.hid (hg2.eq (len' := LN) (ys := XS) (by rw [HXS.out.2]; try omega) (by rw [HXS.out.1]; try simp [List.append_assoc]))
  clear hg2
  go_wp2_with fail
  clear c0
  go_loopw [3, 4] (fun s i wr => ∃ k : Nat, k ≤ ops.length ∧ i = .int .i64 (k : Int) ∧ RGo W W.heap.size W.heap.size 39 #[.int .i64 tag, .int .u64 (admin : Int), .int .i64 bucket, .int .i64 qk, .int .i64 qb, .int .i64 qg, .int .i64 tb, .int .u32 (tg : Int), .int .u32 (ts : Int), .int .u64 (tx : Int), .slice a ops.length cap, .string after, .bool first, .int .i64 count, .int .i64 rights, .int .u32 (serial : Int)] wr s (LN + ((ops.take k).flatMap (putOne tag)).length) (XS ++ (ops.take k).flatMap (putOne tag))) (fun _ i _ => ops.length - (intOf i).toNat)
  case atStart => exact ⟨0, Nat.zero_le _, rfl, HG.out.eq (by simp) (by simp)⟩
  case round =>
    obtain ⟨k, hk, rfl, hg⟩ := hrel
    have hle := ops_take_le (tag := tag) HSM.out k
    have hle' : ((ops.take k).flatMap (putOne tag)).length ≤ 131091000 := Nat.le_trans hle (by omega)
    obtain ⟨m, hm⟩ : ∃ m, m = ((ops.take k).flatMap (putOne tag)).length := ⟨_, rfl⟩
    rw [← hm] at hg hle'
    have HM := Lib.hid hm
    have c10 := hg.cell 10 rfl
    clear hm hle HG
    by_cases hlt : k < ops.length
    · obtain ⟨b, off, rfl, hblt, hc⟩ := HX.out (show 0 < ops.length by omega)
      obtain ⟨⟨del, key, val, cond, ttl⟩, hoe⟩ : ∃ o, o = ops[k] := ⟨_, rfl⟩
      have hmem : (⟨del, key, val, cond, ttl⟩ : Op) ∈ ops := hoe ▸ List.getElem_mem hlt
      have hkey : key.size ≤ 65535 := HSM.out.key _ hmem
      have hval : val.size ≤ 65535 := HSM.out.val _ hmem
      have hcond : cond < 18446744073709551616 := (HSM.out.is_ _ hmem).cond
      have httl : ttl < 18446744073709551616 := (HSM.out.is_ _ hmem).ttl
      have hcr : ∀ i (h : i < ops.length) j u, (ocells ops[i])[j]? = some u → wr.cell? ⟨b, off + i * 5 + j, none⟩ = some u := fun i hi j u hu => (hg.below.cell (p := ⟨b, off + i * 5 + j, none⟩) hblt).trans (hc i hi j u hu)
      obtain ⟨e0, e1, e2, e3, e4⟩ := OpsAt.cells hcr hlt hoe
      have HOE := Lib.hid (And.intro hoe (ops_snoc tag ops k hlt))
      have hgA := hg.alloc (.cells #[.bool del, .string key, .string val, .int .u64 (cond : Int), .int .u64 (ttl : Int)] 83)
      have hgB := hg.two 83 #[.bool del, .string key, .string val, .int .u64 (cond : Int), .int .u64 (ttl : Int)]
      have d0 := hgA.cell 0 rfl
      have x1 := hgB.cell 1 rfl
      have HGA := Lib.hid hgA
      have HGB := Lib.hid hgB
      clear hoe hmem hc hcr hg hgA hgB
      simp only at e0 e1 e2 e3 e4
      go_wp2_with fail
      clear e0 e1 e2 e3 e4 c10
      clear d0 x1
      refine (rtext_grown key hkey _ _ _ W.heap.size _ HGA.out.own HGA.out.size (by omega)).mono ?_
      rintro e w6 ⟨v6, rfl, ho, hon⟩
      have hgE := HGA.out.grown HHT.out ho hon
      have hgF := HGB.out.grown HHO.out ho hon
      have d0 := hgE.cell 0 rfl
      have x3 := hgF.cell 3 rfl
      have HGE := Lib.hid hgE
      have HGF := Lib.hid hgF
      clear ho hon hgE hgF
      go_wp2_with fail
      clear d0 x3
      refine (refPut_any cond hcond 8 (by omega) _ _ _ W.heap.size _ HGE.out.own HGE.out.size (by omega)).mono ?_
      rintro e w7 ⟨v7, rfl, ho, hon⟩
      have hgG := HGE.out.step HHT.out ho hon
      have hgH := HGF.out.step HHO.out ho hon
      have x0 := hgH.cell 0 rfl
      have HGG := Lib.hid hgG
      have HGH := Lib.hid (hgH.same ((But.refl (fun _ => False) w7).drew))
      have HGI := Lib.hid (hgG.same ((But.refl (fun _ => False) w7).drew))
      have HC := Lib.hid (And.intro (show w7.drew.cell? ⟨wr.heap.size, 2, none⟩ = some (.string val) from HGH.out.cell 2 rfl) (show w7.drew.cell? ⟨wr.heap.size, 4, none⟩ = some (.int .u64 (ttl : Int)) from HGH.out.cell 4 rfl))
      clear ho hon hgG hgH
      cases del
      · go_wp2_with fail
        clear x0
        refine Late.region_goes (fun V => V.cell? ⟨wr.heap.size, 2, none⟩ = some (.string val) ∧ V.cell? ⟨wr.heap.size, 4, none⟩ = some (.int .u64 (ttl : Int))) (fun i => Nat.ble 6 i) (by kernel_rfl) ?_ (fun hH => ?_)
        · exact HC.out
        refine Late.Goes.takeT (i := 0) (v := ?_) (by simp only [List.getElem?_toArray, List.getElem?_cons_succ, List.getElem?_cons_zero]; rfl) (by kernel_rfl) (by kernel_rfl) (by kernel_rfl) (by kernel_rfl) (by kernel_rfl) (by exact fun _ _ _ h => h) (Or.inl ⟨by rfl, ?_⟩) hH ?_
        rotate_left
        · (intro wy hSw; (try dsimp only at hSw); have x2 := hSw.1; have x4 := hSw.2; go_simp; try (with_reducible rfl))
        try simp only [Act.put, List.setIfInBounds_toArray, List.set_cons_zero, List.set_cons_succ]
        refine Late.Goes.takeT (i := 1) (v := ?_) (by simp only [List.getElem?_toArray, List.getElem?_cons_succ, List.getElem?_cons_zero]; rfl) (by kernel_rfl) (by kernel_rfl) (by kernel_rfl) (by kernel_rfl) (by kernel_rfl) (by exact fun _ _ _ h => h) (Or.inl ⟨by rfl, ?_⟩) hH ?_
        rotate_left
        · (intro wy hSw; (try dsimp only at hSw); have x2 := hSw.1; have x4 := hSw.2; go_simp; try (with_reducible rfl))
        try simp only [Act.put, List.setIfInBounds_toArray, List.set_cons_zero, List.set_cons_succ]
        refine Late.Goes.takeT (i := 2) (v := ?_) (by simp only [List.getElem?_toArray, List.getElem?_cons_succ, List.getElem?_cons_zero]; rfl) (by kernel_rfl) (by kernel_rfl) (by kernel_rfl) (by kernel_rfl) (by kernel_rfl) (by exact fun _ _ _ h => h) (Or.inl ⟨by rfl, ?_⟩) hH ?_
        rotate_left
        · (intro wy hSw; (try dsimp only at hSw); have x2 := hSw.1; have x4 := hSw.2; go_simp; try (with_reducible rfl))
        try simp only [Act.put, List.setIfInBounds_toArray, List.set_cons_zero, List.set_cons_succ]
        refine Late.Goes.takeT (i := 4) (v := ?_) (by simp only [List.getElem?_toArray, List.getElem?_cons_succ, List.getElem?_cons_zero]; rfl) (by kernel_rfl) (by kernel_rfl) (by kernel_rfl) (by kernel_rfl) (by kernel_rfl) (by exact fun _ _ _ h => h) (Or.inl ⟨by rfl, ?_⟩) hH ?_
        rotate_left
        · (intro wy hSw; (try dsimp only at hSw); have x2 := hSw.1; have x4 := hSw.2; go_simp; try (with_reducible rfl))
        try simp only [Act.put, List.setIfInBounds_toArray, List.set_cons_zero, List.set_cons_succ]
        refine Late.Goes.takeT (i := 5) (v := ?_) (by simp only [List.getElem?_toArray, List.getElem?_cons_succ, List.getElem?_cons_zero]; rfl) (by kernel_rfl) (by kernel_rfl) (by kernel_rfl) (by kernel_rfl) (by kernel_rfl) (by exact fun _ _ _ h => h) (Or.inl ⟨by rfl, ?_⟩) hH ?_
        rotate_left
        · (intro wy hSw; (try dsimp only at hSw); have x2 := hSw.1; have x4 := hSw.2; go_simp; try (with_reducible rfl))
        try simp only [Act.put, List.setIfInBounds_toArray, List.set_cons_zero, List.set_cons_succ]
        refine Late.Goes.one (i := 3) (by kernel_rfl) (by simp only [List.getElem?_toArray, List.getElem?_cons_succ, List.getElem?_cons_zero]; rfl) (fun K hK => ?_)
        clear hH
        go_simp
        go_at_call 37
        refine (rtext_grown val hval _ _ _ W.heap.size _ HGI.out.own HGI.out.size (by omega)).mono ?_
        rintro e w8 ⟨v8, rfl, ho, hon⟩
        have hgJ := HGI.out.grown HHT.out ho hon
        have hgK := HGH.out.grown HHO.out ho hon
        have HC2 := Lib.hid (And.intro (show w8.cell? ⟨wr.heap.size, 2, none⟩ = some (.string val) from hgK.cell 2 rfl) (show w8.cell? ⟨wr.heap.size, 4, none⟩ = some (.int .u64 (ttl : Int)) from hgK.cell 4 rfl))
        have HGJ := Lib.hid hgJ
        clear ho hon hgJ hgK
        refine hK.out _ _ ?_ (fun hH => ?_)
        · exact fun _ => HC2.out
        clear hK K
        have hH := hH rfl
        try simp only [Act.put, List.setIfInBounds_toArray, List.set_cons_zero, List.set_cons_succ]
        refine Late.Goes.one (i := 6) (by kernel_rfl) (by simp only [List.getElem?_toArray, List.getElem?_cons_succ, List.getElem?_cons_zero]; rfl) (fun K hK => ?_)
        clear hH
        go_simp
        go_at_call 36
        refine (refPut_any ttl httl 8 (by omega) _ _ _ W.heap.size _ HGJ.out.own HGJ.out.size (by omega)).mono ?_
        rintro e w9 ⟨v9, rfl, ho, hon⟩
        have HGL := Lib.hid (HGJ.out.step HHT.out ho hon)
        clear ho hon
        refine hK.out _ _ ?_ (fun _ => ?_)
        · exact (fun h => by cases h)
        clear hK K
        try simp only [Act.put, List.setIfInBounds_toArray, List.set_cons_zero, List.set_cons_succ]
        refine Late.Goes.one (i := 7) (by kernel_rfl) (by simp only [List.getElem?_toArray, List.getElem?_cons_succ, List.getElem?_cons_zero]; rfl) (fun K hK => ?_)
        clear hH
        go_simp
        refine hK.out _ _ ?_ (fun _ => ?_)
        · exact (fun h => by cases h)
        clear hK K
        try simp only [Act.put, List.setIfInBounds_toArray, List.set_cons_zero, List.set_cons_succ]
        refine Late.Goes.done (by kernel_rfl) ?_ _
        go_wp2_with fail
        go_roundw
        case rel =>
          obtain ⟨p5, p3, p1, p3', p9, p10, p12, p13, p7⟩ := HP.out
          refine ⟨k + 1, by omega, by go_num, HGL.out.eq ?_ ?_⟩
          · rw [HOE.out.2, ← HOE.out.1, List.length_append, ← HM.out]
            simp only [putOne, putOp, p9, p7, if_true, if_false, List.length_append, List.nil_append, List.length_nil, List.length_singleton, List.append_nil, text_length, put_length, Bool.false_eq_true]
            try omega
          · rw [HOE.out.2, ← HOE.out.1]
            simp only [putOne, putOp, p9, p7, if_true, if_false, List.append_assoc, List.nil_append, List.append_nil, Bool.false_eq_true]
        case measure => simp [intOf]; omega
      · go_wp2_with fail
        clear x0
        go_roundw
        case rel =>
          obtain ⟨p5, p3, p1, p3', p9, p10, p12, p13, p7⟩ := HP.out
          refine ⟨k + 1, by omega, by go_num, HGG.out.eq ?_ ?_⟩
          · rw [HOE.out.2, ← HOE.out.1, List.length_append, ← HM.out]
            simp only [putOne, putOp, p9, p7, if_true, if_false, List.length_append, List.nil_append, List.length_nil, List.length_singleton, List.append_nil, text_length, put_length, Bool.false_eq_true]
            try omega
          · rw [HOE.out.2, ← HOE.out.1]
            simp only [putOne, putOp, p9, p7, if_true, if_false, List.append_assoc, List.nil_append, List.append_nil, Bool.false_eq_true]
        case measure => simp [intOf]; omega
    · have hkl' : k = ops.length := by omega
      subst hkl'
      have hall : ops.take ops.length = ops := List.take_of_length_le (Nat.le_refl _)
      have HF := Lib.hid (hg.eq (by rw [HM.out, hall]) (by rw [hall]))
      clear hall hg hlt hk
      go_wp2_with fail
      go_ret
      rw [← HQ.out]
      refine ⟨_, rfl, row_eq HF.out.own ?_ ?_, HF.out.below⟩
      · rw [HREF.out, List.length_append, HXS.out.1, HXS.out.2]
        simp [putTok, put_length, text_length]; try omega
      · rw [HREF.out]
end Go.Proofs.Ytbdbbnpkekcefaa.Cmd
namespace Go.Proofs.Ytbdbbnpkekcefaa.Cmd
open Go.Proofs.Ytbdbbnpkekcefaa.Mem Go.Proofs.Ytbdbbnpkekcefaa.Pack
open Go.ChangeShapes Go.WideShapes Go.ChangeAt Go.RowKit
set_option linter.unusedVariables false
set_option linter.unusedSimpArgs false

set_option maxRecDepth 100000 in
set_option maxHeartbeats 8000000 in
theorem rbytes_g (tag : Int) (h : tag = 7) (admin : Nat) (bucket qk qb qg tb : Int) (tg ts tx : Nat) (ops : List Op) (after : ByteArray) (first : Bool) (count rights : Int) (serial : Nat) (sv : Value) (W : World)
    (hadm : admin < 18446744073709551616) (htok : TokSo ⟨tb, tg, ts, tx⟩) (hser : serial < 4294967296) (haf : after.size ≤ 65535) (hsm : Small ops) (hops : OpsAt W sv ops) (q : Rq) (hq : q = ⟨tag, admin, bucket, ⟨qk, qb, qg⟩, ⟨tb, tg, ts, tx⟩, ops, after, first, count, rights, serial⟩) : Calls Try.prog 32 #[rv q sv] W fun e w' => RBytesIs q W e w' := by
  obtain ⟨i0, hi0, hz0, hz1, hz2⟩ := info_parts u8_info
  obtain ⟨a, cap, rfl, hx⟩ := hops
  have hw0 := wrap_u8 tag
  have t5 : decide (tag ≤ 5) = false := by simp; omega
  have t3 : decide (tag ≤ 3) = false := by simp; omega
  have q1 : (tag == 1) = false := by exact beq_eq_false_iff_ne.2 (by omega)
  have q3 : (tag == 3) = false := by exact beq_eq_false_iff_ne.2 (by omega)
  have q9 : (tag == 9) = false := by exact beq_eq_false_iff_ne.2 (by omega)
  have q10 : (tag == 10) = false := by exact beq_eq_false_iff_ne.2 (by omega)
  have q12 : (tag == 12) = false := by exact beq_eq_false_iff_ne.2 (by omega)
  have q13 : (tag == 13) = false := by exact beq_eq_false_iff_ne.2 (by omega)
  have n7 : (tag != 7) = false := by exact bne_eq_false_iff_eq.2 h
  have HP := Lib.hid (show ((tag ≤ 5) = False) ∧ ((tag ≤ 3) = False) ∧ ((tag = 1) = False) ∧ ((tag = 3) = False) ∧ ((tag = 9) = False) ∧ ((tag = 10) = False) ∧ ((tag = 12) = False) ∧ ((tag = 13) = False) ∧ ((tag = 7) = True) by refine ⟨?_, ?_, ?_, ?_, ?_, ?_, ?_, ?_, ?_⟩ <;> simp <;> omega)
  have hfew := hsm.few
  obtain ⟨XS, hXS⟩ : ∃ X, X = [tag % 256] ++ putTok ⟨tb, tg, ts, tx⟩ := ⟨_, rfl⟩
  have HREF := Lib.hid (show refBytes q = XS ++ ops.flatMap (putOne tag) by
    obtain ⟨p5, p3, p1, p3', p9, p10, p12, p13, p7⟩ := HP.out
    rw [hq, hXS]
    unfold refBytes refMore
    simp only [u64_byte, p5, p3, p1, p3', p9, p10, p12, p13, if_true, if_false, or_true, true_or, or_self, false_or, or_false, List.append_assoc, List.nil_append, putQuo, flag]
    try simp only [put_byte]
    try rfl)
  obtain ⟨LN, hLN⟩ : ∃ n, n = 1 + 17 := ⟨_, rfl⟩
  have HXS := Lib.hid (And.intro hXS hLN)
  have hLNle : LN ≤ 100000 := by omega
  have HX := Lib.hid hx
  have HSM := Lib.hid hsm
  have hn1 : IntKind.u8.wrap (ops.length : Int) = ((ops.length % 256 : Nat) : Int) := by rw [wrap_u8]; omega
  have hwb := wrap_u8 bucket
  have hwc := wrap_u8 count
  have hwr := wrap_u8 rights
  have hwk := wrap_u64 qk
  have hwq := wrap_u64 qb
  have hwg := wrap_u64 qg
  have hws := wrap_u64_nat (n := serial) (by omega)
  have hkl := u64_lt qk
  have hbl := u64_lt qb
  have hgl := u64_lt qg
  have HHT := Lib.hid (show 39 ≠ 5 by decide)
  have HHO := Lib.hid (show 83 ≠ 5 by decide)
  have hg1 := rgo_start W 39 #[.int .i64 tag, .int .u64 (admin : Int), .int .i64 bucket, .int .i64 qk, .int .i64 qb, .int .i64 qg, .int .i64 tb, .int .u32 (tg : Int), .int .u32 (ts : Int), .int .u64 (tx : Int), .slice a ops.length cap, .string after, .bool first, .int .i64 count, .int .i64 rights, .int .u32 (serial : Int)] (tag % 256)
  have HQ := Lib.hid hq
  rw [hq]
  clear hx hXS hLN hq hsm h
  unfold rv rcells
  have d0 := hg1.cell 0 rfl
  have d6 := hg1.cell 6 rfl
  have d7 := hg1.cell 7 rfl
  have d8 := hg1.cell 8 rfl
  have d9 := hg1.cell 9 rfl
  go_enter Try.func32, Try.ntmps32
  go_wp2_with fail
  clear d0 d6 d7 d8 d9
  refine (rtoken_any ⟨tb, tg, ts, tx⟩ htok _ _ _ W.heap.size _ hg1.own hg1.size (by omega)).mono ?_
  rintro e w2 ⟨v2, rfl, ho, hon⟩
  have hg2 := hg1.step HHT.out ho hon
  have c0 := hg2.cell 0 rfl
  clear ho hon hg1
  have HG := Lib.hid (hg2.eq (len' := LN) (ys := XS) (by rw [HXS.out.2]; try omega) (by rw [HXS.out.1]; try simp [List.append_assoc]))
  clear hg2
  go_wp2_with fail
  clear c0
  go_loopw [3, 4] (fun s i wr => ∃ k : Nat, k ≤ ops.length ∧ i = .int .i64 (k : Int) ∧ RGo W W.heap.size W.heap.size 39 #[.int .i64 tag, .int .u64 (admin : Int), .int .i64 bucket, .int .i64 qk, .int .i64 qb, .int .i64 qg, .int .i64 tb, .int .u32 (tg : Int), .int .u32 (ts : Int), .int .u64 (tx : Int), .slice a ops.length cap, .string after, .bool first, .int .i64 count, .int .i64 rights, .int .u32 (serial : Int)] wr s (LN + ((ops.take k).flatMap (putOne tag)).length) (XS ++ (ops.take k).flatMap (putOne tag))) (fun _ i _ => ops.length - (intOf i).toNat)
  case atStart => exact ⟨0, Nat.zero_le _, rfl, HG.out.eq (by simp) (by simp)⟩
  case round =>
    obtain ⟨k, hk, rfl, hg⟩ := hrel
    have hle := ops_take_le (tag := tag) HSM.out k
    have hle' : ((ops.take k).flatMap (putOne tag)).length ≤ 131091000 := Nat.le_trans hle (by omega)
    obtain ⟨m, hm⟩ : ∃ m, m = ((ops.take k).flatMap (putOne tag)).length := ⟨_, rfl⟩
    rw [← hm] at hg hle'
    have HM := Lib.hid hm
    have c10 := hg.cell 10 rfl
    clear hm hle HG
    by_cases hlt : k < ops.length
    · obtain ⟨b, off, rfl, hblt, hc⟩ := HX.out (show 0 < ops.length by omega)
      obtain ⟨⟨del, key, val, cond, ttl⟩, hoe⟩ : ∃ o, o = ops[k] := ⟨_, rfl⟩
      have hmem : (⟨del, key, val, cond, ttl⟩ : Op) ∈ ops := hoe ▸ List.getElem_mem hlt
      have hkey : key.size ≤ 65535 := HSM.out.key _ hmem
      have hval : val.size ≤ 65535 := HSM.out.val _ hmem
      have hcond : cond < 18446744073709551616 := (HSM.out.is_ _ hmem).cond
      have httl : ttl < 18446744073709551616 := (HSM.out.is_ _ hmem).ttl
      have hcr : ∀ i (h : i < ops.length) j u, (ocells ops[i])[j]? = some u → wr.cell? ⟨b, off + i * 5 + j, none⟩ = some u := fun i hi j u hu => (hg.below.cell (p := ⟨b, off + i * 5 + j, none⟩) hblt).trans (hc i hi j u hu)
      obtain ⟨e0, e1, e2, e3, e4⟩ := OpsAt.cells hcr hlt hoe
      have HOE := Lib.hid (And.intro hoe (ops_snoc tag ops k hlt))
      have hgA := hg.alloc (.cells #[.bool del, .string key, .string val, .int .u64 (cond : Int), .int .u64 (ttl : Int)] 83)
      have hgB := hg.two 83 #[.bool del, .string key, .string val, .int .u64 (cond : Int), .int .u64 (ttl : Int)]
      have d0 := hgA.cell 0 rfl
      have x1 := hgB.cell 1 rfl
      have HGA := Lib.hid hgA
      have HGB := Lib.hid hgB
      clear hoe hmem hc hcr hg hgA hgB
      simp only at e0 e1 e2 e3 e4
      go_wp2_with fail
      clear e0 e1 e2 e3 e4 c10
      clear d0 x1
      refine (rtext_grown key hkey _ _ _ W.heap.size _ HGA.out.own HGA.out.size (by omega)).mono ?_
      rintro e w6 ⟨v6, rfl, ho, hon⟩
      have hgE := HGA.out.grown HHT.out ho hon
      have hgF := HGB.out.grown HHO.out ho hon
      have d0 := hgE.cell 0 rfl
      have x3 := hgF.cell 3 rfl
      have HGE := Lib.hid hgE
      have HGF := Lib.hid hgF
      clear ho hon hgE hgF
      go_wp2_with fail
      clear d0 x3
      go_roundw
      case rel =>
        obtain ⟨p5, p3, p1, p3', p9, p10, p12, p13, p7⟩ := HP.out
        refine ⟨k + 1, by omega, by go_num, HGE.out.eq ?_ ?_⟩
        · rw [HOE.out.2, ← HOE.out.1, List.length_append, ← HM.out]
          simp only [putOne, putOp, p9, p7, if_true, if_false, List.length_append, List.nil_append, List.length_nil, List.length_singleton, List.append_nil, text_length, put_length, Bool.false_eq_true]
          try omega
        · rw [HOE.out.2, ← HOE.out.1]
          simp only [putOne, putOp, p9, p7, if_true, if_false, List.append_assoc, List.nil_append, List.append_nil, Bool.false_eq_true]
      case measure => simp [intOf]; omega
    · have hkl' : k = ops.length := by omega
      subst hkl'
      have hall : ops.take ops.length = ops := List.take_of_length_le (Nat.le_refl _)
      have HF := Lib.hid (hg.eq (by rw [HM.out, hall]) (by rw [hall]))
      clear hall hg hlt hk
      go_wp2_with fail
      go_ret
      rw [← HQ.out]
      refine ⟨_, rfl, row_eq HF.out.own ?_ ?_, HF.out.below⟩
      · rw [HREF.out, List.length_append, HXS.out.1, HXS.out.2]
        simp [putTok, put_length, text_length]; try omega
      · rw [HREF.out]
end Go.Proofs.Ytbdbbnpkekcefaa.Cmd

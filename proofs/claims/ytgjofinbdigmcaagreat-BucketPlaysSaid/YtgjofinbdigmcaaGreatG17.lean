/- Whether a record may be: the walks of record.May. Whether a record may be: the walks of record.May. -/
import Derived.Test.YtgjofinbdigmcaaGreatG16
import Derived.Test.YtgjofinbdigmcaaGreatG03
set_option linter.unusedSimpArgs false
set_option linter.unusedVariables false
set_option maxHeartbeats 2000000
set_option maxRecDepth 100000
section
namespace Go.Proofs.YtgjofinbdigmcaaGreat.Rec
open Go.Proofs.YtgjofinbdigmcaaGreat.Mem Go.Proofs.YtgjofinbdigmcaaGreat.Pack
open Go.ChangeShapes Go.WideShapes Go.ChangeAt Go.RowKit
theorem may_high (r:Rcd) (hr:r=named r) (h0:0≤r.bucket) (h1:64≤r.bucket) (w:World):Calls Tryz.prog 28 #[rv r] w fun e w'=>e = .returned (.bool false)∧Below w.heap.size w w':=by
 have hn:=fun w=>named_any r w
 rw [← hr] at hn
 have hne:=fun w=>rec_neq r r w
 have heq:=fun w=>rec_equal r r w
 rw [decide_eq_true (rfl:r=r)] at hne heq
 simp only [Bool.not_true] at hne
 clear hr
 obtain ⟨k,b,g,q1,q2,q3,s1,s2,ri,se,ke,va,ve,ex⟩:=r
 simp only [rv,cells] at hn hne heq ⊢
 have e0:¬ (b < 0):=by simp only at h0;omega
 have d0:decide (b < 0)=false:=decide_eq_false e0
 clear h0
 have e1:(64≤b):=by simp only at h1;omega
 have d1:decide (64≤b)=true:=decide_eq_true e1
 clear h1
 have HN:=Lib.hid hn
 clear hn
 have hx:Box (w.alloc (.cells (cells ⟨k,b,g,q1,q2,q3,s1,s2,ri,se,ke,va,ve,ex⟩) 35)) w.heap.size (cells ⟨k,b,g,q1,q2,q3,s1,s2,ri,se,ke,va,ve,ex⟩):=heap_new _ _
 simp only [cells] at hx
 go_enter Tryz.func28,Tryz.ntmps28
 go_wp2_with fail
 refine Late.region_goes (fun u=>Box u w.heap.size #[.int .i64 k,.int .i64 b,.int .u32 (g:Int),.int .i64 q1,.int .i64 q2,.int .i64 q3,.int .u64 (s1:Int),.int .u32 (s2:Int),.int .i64 ri,.int .u64 (se:Int),.string ke,.string va,.int .u64 (ve:Int),.int .u64 (ex:Int)]) (fun _=>false) (by kernel_rfl) ?_ (fun hH=>?_)
 ·exact hx
 refine Late.Goes.take (i:=0) (v:=?_) (by simp only [List.getElem?_toArray,List.getElem?_cons_succ,List.getElem?_cons_zero];rfl) (by kernel_rfl) (by kernel_rfl) (by kernel_rfl) (by kernel_rfl) (by exact fun _ _ _ h=>h) (Or.inl ⟨by rfl,?_⟩) hH ?_
 rotate_left
 ·(intro wy hSw;(try dsimp only at hSw);have c0:=Box.cell hSw 0 rfl;have c1:=Box.cell hSw 1 rfl;have c2:=Box.cell hSw 2 rfl;have c3:=Box.cell hSw 3 rfl;have c4:=Box.cell hSw 4 rfl;have c5:=Box.cell hSw 5 rfl;have c6:=Box.cell hSw 6 rfl;have c7:=Box.cell hSw 7 rfl;have c8:=Box.cell hSw 8 rfl;have c9:=Box.cell hSw 9 rfl;have c10:=Box.cell hSw 10 rfl;have c11:=Box.cell hSw 11 rfl;have c12:=Box.cell hSw 12 rfl;have c13:=Box.cell hSw 13 rfl;go_simp;try (with_reducible rfl))
 try simp only [Act.put,List.setIfInBounds_toArray,List.set_cons_zero,List.set_cons_succ]
 refine Late.Goes.take (i:=1) (v:=?_) (by simp only [List.getElem?_toArray,List.getElem?_cons_succ,List.getElem?_cons_zero];rfl) (by kernel_rfl) (by kernel_rfl) (by kernel_rfl) (by kernel_rfl) (by exact fun _ _ _ h=>h) (Or.inl ⟨by rfl,?_⟩) hH ?_
 rotate_left
 ·(intro wy hSw;(try dsimp only at hSw);have c0:=Box.cell hSw 0 rfl;have c1:=Box.cell hSw 1 rfl;have c2:=Box.cell hSw 2 rfl;have c3:=Box.cell hSw 3 rfl;have c4:=Box.cell hSw 4 rfl;have c5:=Box.cell hSw 5 rfl;have c6:=Box.cell hSw 6 rfl;have c7:=Box.cell hSw 7 rfl;have c8:=Box.cell hSw 8 rfl;have c9:=Box.cell hSw 9 rfl;have c10:=Box.cell hSw 10 rfl;have c11:=Box.cell hSw 11 rfl;have c12:=Box.cell hSw 12 rfl;have c13:=Box.cell hSw 13 rfl;go_simp;try (with_reducible rfl))
 try simp only [Act.put,List.setIfInBounds_toArray,List.set_cons_zero,List.set_cons_succ]
 refine Late.Goes.one (i:=2) (by kernel_rfl) (by simp only [List.getElem?_toArray,List.getElem?_cons_succ,List.getElem?_cons_zero];rfl) (fun K hK=>?_)
 clear hH
 go_simp
 go_at_call 58
 refine (HN.out _).mono ?_
 rintro e w1 ⟨rfl,hb⟩
 have hx1:Box w1 w.heap.size #[.int .i64 k,.int .i64 b,.int .u32 (g:Int),.int .i64 q1,.int .i64 q2,.int .i64 q3,.int .u64 (s1:Int),.int .u32 (s2:Int),.int .i64 ri,.int .u64 (se:Int),.string ke,.string va,.int .u64 (ve:Int),.int .u64 (ex:Int)]:=(hb.block w.heap.size (by simp)).trans (heap_new w _)
 have hb1:Below w.heap.size w w1:=((Below.refl _ w).alloc (Nat.le_refl _) _).drew.trans (hb.mono (by simp))
 have HB:=Lib.hid hb1
 have c0:w1.cell? ⟨w.heap.size,0,none⟩=some (.int .i64 k):=hx1.cell 0 rfl
 have c1:w1.cell? ⟨w.heap.size,1,none⟩=some (.int .i64 b):=hx1.cell 1 rfl
 have c2:w1.cell? ⟨w.heap.size,2,none⟩=some (.int .u32 (g:Int)):=hx1.cell 2 rfl
 have HX1:=Lib.hid hx1
 clear hb hb1 hx1
 refine hK.out _ _ ?_ (fun hH=>?_)
 ·exact fun _=>HX1.out
 clear hK K
 have hH:=hH rfl
 try simp only [Act.put,List.setIfInBounds_toArray,List.set_cons_zero,List.set_cons_succ]
 refine Late.Goes.one (i:=3) (by kernel_rfl) (by simp only [List.getElem?_toArray,List.getElem?_cons_succ,List.getElem?_cons_zero];rfl) (fun K hK=>?_)
 clear hH
 go_simp
 refine hK.out _ _ ?_ (fun hH=>?_)
 ·exact fun _=>HX1.out
 clear hK K
 have hH:=hH rfl
 try simp only [Act.put,List.setIfInBounds_toArray,List.set_cons_zero,List.set_cons_succ]
 refine Late.Goes.one (i:=4) (by kernel_rfl) (by simp only [List.getElem?_toArray,List.getElem?_cons_succ,List.getElem?_cons_zero];rfl) (fun K hK=>?_)
 clear hH
 go_simp
 refine hK.out _ _ ?_ (fun hH=>?_)
 ·exact fun _=>HX1.out
 clear hK K
 have hH:=hH rfl
 try simp only [Act.put,List.setIfInBounds_toArray,List.set_cons_zero,List.set_cons_succ]
 refine Late.Goes.one (i:=5) (by kernel_rfl) (by simp only [List.getElem?_toArray,List.getElem?_cons_succ,List.getElem?_cons_zero];rfl) (fun K hK=>?_)
 clear hH
 go_simp
 refine hK.out _ _ ?_ (fun hH=>?_)
 ·exact fun _=>HX1.out
 clear hK K
 have hH:=hH rfl
 try simp only [Act.put,List.setIfInBounds_toArray,List.set_cons_zero,List.set_cons_succ]
 refine Late.Goes.one (i:=6) (by kernel_rfl) (by simp only [List.getElem?_toArray,List.getElem?_cons_succ,List.getElem?_cons_zero];rfl) (fun K hK=>?_)
 clear hH
 go_simp
 refine hK.out _ _ ?_ (fun hH=>?_)
 ·exact fun _=>HX1.out
 clear hK K
 have hH:=hH rfl
 try simp only [Act.put,List.setIfInBounds_toArray,List.set_cons_zero,List.set_cons_succ]
 refine Late.Goes.one (i:=7) (by kernel_rfl) (by simp only [List.getElem?_toArray,List.getElem?_cons_succ,List.getElem?_cons_zero];rfl) (fun K hK=>?_)
 clear hH
 go_simp
 refine hK.out _ _ ?_ (fun hH=>?_)
 ·exact fun _=>HX1.out
 clear hK K
 have hH:=hH rfl
 try simp only [Act.put,List.setIfInBounds_toArray,List.set_cons_zero,List.set_cons_succ]
 refine Late.Goes.one (i:=8) (by kernel_rfl) (by simp only [List.getElem?_toArray,List.getElem?_cons_succ,List.getElem?_cons_zero];rfl) (fun K hK=>?_)
 clear hH
 go_simp
 refine hK.out _ _ ?_ (fun hH=>?_)
 ·exact fun _=>HX1.out
 clear hK K
 have hH:=hH rfl
 try simp only [Act.put,List.setIfInBounds_toArray,List.set_cons_zero,List.set_cons_succ]
 refine Late.Goes.one (i:=9) (by kernel_rfl) (by simp only [List.getElem?_toArray,List.getElem?_cons_succ,List.getElem?_cons_zero];rfl) (fun K hK=>?_)
 clear hH
 go_simp
 refine hK.out _ _ ?_ (fun hH=>?_)
 ·exact fun _=>HX1.out
 clear hK K
 have hH:=hH rfl
 try simp only [Act.put,List.setIfInBounds_toArray,List.set_cons_zero,List.set_cons_succ]
 refine Late.Goes.one (i:=10) (by kernel_rfl) (by simp only [List.getElem?_toArray,List.getElem?_cons_succ,List.getElem?_cons_zero];rfl) (fun K hK=>?_)
 clear hH
 go_simp
 refine hK.out _ _ ?_ (fun hH=>?_)
 ·exact fun _=>HX1.out
 clear hK K
 have hH:=hH rfl
 try simp only [Act.put,List.setIfInBounds_toArray,List.set_cons_zero,List.set_cons_succ]
 refine Late.Goes.one (i:=11) (by kernel_rfl) (by simp only [List.getElem?_toArray,List.getElem?_cons_succ,List.getElem?_cons_zero];rfl) (fun K hK=>?_)
 clear hH
 go_simp
 refine hK.out _ _ ?_ (fun hH=>?_)
 ·exact fun _=>HX1.out
 clear hK K
 have hH:=hH rfl
 try simp only [Act.put,List.setIfInBounds_toArray,List.set_cons_zero,List.set_cons_succ]
 refine Late.Goes.one (i:=12) (by kernel_rfl) (by simp only [List.getElem?_toArray,List.getElem?_cons_succ,List.getElem?_cons_zero];rfl) (fun K hK=>?_)
 clear hH
 go_simp
 refine hK.out _ _ ?_ (fun hH=>?_)
 ·exact fun _=>HX1.out
 clear hK K
 have hH:=hH rfl
 try simp only [Act.put,List.setIfInBounds_toArray,List.set_cons_zero,List.set_cons_succ]
 refine Late.Goes.one (i:=13) (by kernel_rfl) (by simp only [List.getElem?_toArray,List.getElem?_cons_succ,List.getElem?_cons_zero];rfl) (fun K hK=>?_)
 clear hH
 go_simp
 refine hK.out _ _ ?_ (fun hH=>?_)
 ·exact fun _=>HX1.out
 clear hK K
 have hH:=hH rfl
 try simp only [Act.put,List.setIfInBounds_toArray,List.set_cons_zero,List.set_cons_succ]
 refine Late.Goes.one (i:=14) (by kernel_rfl) (by simp only [List.getElem?_toArray,List.getElem?_cons_succ,List.getElem?_cons_zero];rfl) (fun K hK=>?_)
 clear hH
 go_simp
 refine hK.out _ _ ?_ (fun hH=>?_)
 ·exact fun _=>HX1.out
 clear hK K
 have hH:=hH rfl
 try simp only [Act.put,List.setIfInBounds_toArray,List.set_cons_zero,List.set_cons_succ]
 refine Late.Goes.one (i:=15) (by kernel_rfl) (by simp only [List.getElem?_toArray,List.getElem?_cons_succ,List.getElem?_cons_zero];rfl) (fun K hK=>?_)
 clear hH
 go_simp
 refine hK.out _ _ ?_ (fun hH=>?_)
 ·exact fun _=>HX1.out
 clear hK K
 have hH:=hH rfl
 try simp only [Act.put,List.setIfInBounds_toArray,List.set_cons_zero,List.set_cons_succ]
 refine Late.Goes.one (i:=16) (by kernel_rfl) (by simp only [List.getElem?_toArray,List.getElem?_cons_succ,List.getElem?_cons_zero];rfl) (fun K hK=>?_)
 clear hH
 go_simp
 refine hK.out _ _ ?_ (fun hH=>?_)
 ·exact fun _=>HX1.out
 clear hK K
 have hH:=hH rfl
 try simp only [Act.put,List.setIfInBounds_toArray,List.set_cons_zero,List.set_cons_succ]
 refine Late.Goes.one (i:=17) (by kernel_rfl) (by simp only [List.getElem?_toArray,List.getElem?_cons_succ,List.getElem?_cons_zero];rfl) (fun K hK=>?_)
 clear hH
 go_simp
 refine hK.out _ _ ?_ (fun hH=>?_)
 ·exact fun _=>HX1.out
 clear hK K
 have hH:=hH rfl
 try simp only [Act.put,List.setIfInBounds_toArray,List.set_cons_zero,List.set_cons_succ]
 refine Late.Goes.one (i:=18) (by kernel_rfl) (by simp only [List.getElem?_toArray,List.getElem?_cons_succ,List.getElem?_cons_zero];rfl) (fun K hK=>?_)
 clear hH
 go_simp
 refine hK.out _ _ ?_ (fun hH=>?_)
 ·exact fun _=>HX1.out
 clear hK K
 have hH:=hH rfl
 try simp only [Act.put,List.setIfInBounds_toArray,List.set_cons_zero,List.set_cons_succ]
 refine Late.Goes.done (by kernel_rfl) ?_ _
 clear hH hx hne heq
 go_wp2
 go_ret
 exact ⟨rfl,HB.out⟩
theorem may_gen (r:Rcd) (hr:r=named r) (h0:0≤r.bucket) (h1:r.bucket < 64) (h2:r.gen < 1) (w:World):Calls Tryz.prog 28 #[rv r] w fun e w'=>e = .returned (.bool false)∧Below w.heap.size w w':=by
 have hn:=fun w=>named_any r w
 rw [← hr] at hn
 have hne:=fun w=>rec_neq r r w
 have heq:=fun w=>rec_equal r r w
 rw [decide_eq_true (rfl:r=r)] at hne heq
 simp only [Bool.not_true] at hne
 clear hr
 obtain ⟨k,b,g,q1,q2,q3,s1,s2,ri,se,ke,va,ve,ex⟩:=r
 simp only [rv,cells] at hn hne heq ⊢
 have e0:¬ (b < 0):=by simp only at h0;omega
 have d0:decide (b < 0)=false:=decide_eq_false e0
 clear h0
 have e1:¬ (64≤b):=by simp only at h1;omega
 have d1:decide (64≤b)=false:=decide_eq_false e1
 clear h1
 have e2:((g:Int) < 1):=by simp only at h2;omega
 have d2:decide ((g:Int) < 1)=true:=decide_eq_true e2
 clear h2
 have HN:=Lib.hid hn
 clear hn
 have hx:Box (w.alloc (.cells (cells ⟨k,b,g,q1,q2,q3,s1,s2,ri,se,ke,va,ve,ex⟩) 35)) w.heap.size (cells ⟨k,b,g,q1,q2,q3,s1,s2,ri,se,ke,va,ve,ex⟩):=heap_new _ _
 simp only [cells] at hx
 go_enter Tryz.func28,Tryz.ntmps28
 go_wp2_with fail
 refine Late.region_goes (fun u=>Box u w.heap.size #[.int .i64 k,.int .i64 b,.int .u32 (g:Int),.int .i64 q1,.int .i64 q2,.int .i64 q3,.int .u64 (s1:Int),.int .u32 (s2:Int),.int .i64 ri,.int .u64 (se:Int),.string ke,.string va,.int .u64 (ve:Int),.int .u64 (ex:Int)]) (fun _=>false) (by kernel_rfl) ?_ (fun hH=>?_)
 ·exact hx
 refine Late.Goes.take (i:=0) (v:=?_) (by simp only [List.getElem?_toArray,List.getElem?_cons_succ,List.getElem?_cons_zero];rfl) (by kernel_rfl) (by kernel_rfl) (by kernel_rfl) (by kernel_rfl) (by exact fun _ _ _ h=>h) (Or.inl ⟨by rfl,?_⟩) hH ?_
 rotate_left
 ·(intro wy hSw;(try dsimp only at hSw);have c0:=Box.cell hSw 0 rfl;have c1:=Box.cell hSw 1 rfl;have c2:=Box.cell hSw 2 rfl;have c3:=Box.cell hSw 3 rfl;have c4:=Box.cell hSw 4 rfl;have c5:=Box.cell hSw 5 rfl;have c6:=Box.cell hSw 6 rfl;have c7:=Box.cell hSw 7 rfl;have c8:=Box.cell hSw 8 rfl;have c9:=Box.cell hSw 9 rfl;have c10:=Box.cell hSw 10 rfl;have c11:=Box.cell hSw 11 rfl;have c12:=Box.cell hSw 12 rfl;have c13:=Box.cell hSw 13 rfl;go_simp;try (with_reducible rfl))
 try simp only [Act.put,List.setIfInBounds_toArray,List.set_cons_zero,List.set_cons_succ]
 refine Late.Goes.take (i:=1) (v:=?_) (by simp only [List.getElem?_toArray,List.getElem?_cons_succ,List.getElem?_cons_zero];rfl) (by kernel_rfl) (by kernel_rfl) (by kernel_rfl) (by kernel_rfl) (by exact fun _ _ _ h=>h) (Or.inl ⟨by rfl,?_⟩) hH ?_
 rotate_left
 ·(intro wy hSw;(try dsimp only at hSw);have c0:=Box.cell hSw 0 rfl;have c1:=Box.cell hSw 1 rfl;have c2:=Box.cell hSw 2 rfl;have c3:=Box.cell hSw 3 rfl;have c4:=Box.cell hSw 4 rfl;have c5:=Box.cell hSw 5 rfl;have c6:=Box.cell hSw 6 rfl;have c7:=Box.cell hSw 7 rfl;have c8:=Box.cell hSw 8 rfl;have c9:=Box.cell hSw 9 rfl;have c10:=Box.cell hSw 10 rfl;have c11:=Box.cell hSw 11 rfl;have c12:=Box.cell hSw 12 rfl;have c13:=Box.cell hSw 13 rfl;go_simp;try (with_reducible rfl))
 try simp only [Act.put,List.setIfInBounds_toArray,List.set_cons_zero,List.set_cons_succ]
 refine Late.Goes.one (i:=2) (by kernel_rfl) (by simp only [List.getElem?_toArray,List.getElem?_cons_succ,List.getElem?_cons_zero];rfl) (fun K hK=>?_)
 clear hH
 go_simp
 go_at_call 58
 refine (HN.out _).mono ?_
 rintro e w1 ⟨rfl,hb⟩
 have hx1:Box w1 w.heap.size #[.int .i64 k,.int .i64 b,.int .u32 (g:Int),.int .i64 q1,.int .i64 q2,.int .i64 q3,.int .u64 (s1:Int),.int .u32 (s2:Int),.int .i64 ri,.int .u64 (se:Int),.string ke,.string va,.int .u64 (ve:Int),.int .u64 (ex:Int)]:=(hb.block w.heap.size (by simp)).trans (heap_new w _)
 have hb1:Below w.heap.size w w1:=((Below.refl _ w).alloc (Nat.le_refl _) _).drew.trans (hb.mono (by simp))
 have HB:=Lib.hid hb1
 have c0:w1.cell? ⟨w.heap.size,0,none⟩=some (.int .i64 k):=hx1.cell 0 rfl
 have c1:w1.cell? ⟨w.heap.size,1,none⟩=some (.int .i64 b):=hx1.cell 1 rfl
 have c2:w1.cell? ⟨w.heap.size,2,none⟩=some (.int .u32 (g:Int)):=hx1.cell 2 rfl
 have HX1:=Lib.hid hx1
 clear hb hb1 hx1
 refine hK.out _ _ ?_ (fun hH=>?_)
 ·exact fun _=>HX1.out
 clear hK K
 have hH:=hH rfl
 try simp only [Act.put,List.setIfInBounds_toArray,List.set_cons_zero,List.set_cons_succ]
 refine Late.Goes.one (i:=3) (by kernel_rfl) (by simp only [List.getElem?_toArray,List.getElem?_cons_succ,List.getElem?_cons_zero];rfl) (fun K hK=>?_)
 clear hH
 go_simp
 refine hK.out _ _ ?_ (fun hH=>?_)
 ·exact fun _=>HX1.out
 clear hK K
 have hH:=hH rfl
 try simp only [Act.put,List.setIfInBounds_toArray,List.set_cons_zero,List.set_cons_succ]
 refine Late.Goes.one (i:=4) (by kernel_rfl) (by simp only [List.getElem?_toArray,List.getElem?_cons_succ,List.getElem?_cons_zero];rfl) (fun K hK=>?_)
 clear hH
 go_simp
 refine hK.out _ _ ?_ (fun hH=>?_)
 ·exact fun _=>HX1.out
 clear hK K
 have hH:=hH rfl
 try simp only [Act.put,List.setIfInBounds_toArray,List.set_cons_zero,List.set_cons_succ]
 refine Late.Goes.one (i:=5) (by kernel_rfl) (by simp only [List.getElem?_toArray,List.getElem?_cons_succ,List.getElem?_cons_zero];rfl) (fun K hK=>?_)
 clear hH
 go_simp
 refine hK.out _ _ ?_ (fun hH=>?_)
 ·exact fun _=>HX1.out
 clear hK K
 have hH:=hH rfl
 try simp only [Act.put,List.setIfInBounds_toArray,List.set_cons_zero,List.set_cons_succ]
 refine Late.Goes.one (i:=6) (by kernel_rfl) (by simp only [List.getElem?_toArray,List.getElem?_cons_succ,List.getElem?_cons_zero];rfl) (fun K hK=>?_)
 clear hH
 go_simp
 refine hK.out _ _ ?_ (fun hH=>?_)
 ·exact fun _=>HX1.out
 clear hK K
 have hH:=hH rfl
 try simp only [Act.put,List.setIfInBounds_toArray,List.set_cons_zero,List.set_cons_succ]
 refine Late.Goes.one (i:=7) (by kernel_rfl) (by simp only [List.getElem?_toArray,List.getElem?_cons_succ,List.getElem?_cons_zero];rfl) (fun K hK=>?_)
 clear hH
 go_simp
 refine hK.out _ _ ?_ (fun hH=>?_)
 ·exact fun _=>HX1.out
 clear hK K
 have hH:=hH rfl
 try simp only [Act.put,List.setIfInBounds_toArray,List.set_cons_zero,List.set_cons_succ]
 refine Late.Goes.one (i:=8) (by kernel_rfl) (by simp only [List.getElem?_toArray,List.getElem?_cons_succ,List.getElem?_cons_zero];rfl) (fun K hK=>?_)
 clear hH
 go_simp
 refine hK.out _ _ ?_ (fun hH=>?_)
 ·exact fun _=>HX1.out
 clear hK K
 have hH:=hH rfl
 try simp only [Act.put,List.setIfInBounds_toArray,List.set_cons_zero,List.set_cons_succ]
 refine Late.Goes.one (i:=9) (by kernel_rfl) (by simp only [List.getElem?_toArray,List.getElem?_cons_succ,List.getElem?_cons_zero];rfl) (fun K hK=>?_)
 clear hH
 go_simp
 refine hK.out _ _ ?_ (fun hH=>?_)
 ·exact fun _=>HX1.out
 clear hK K
 have hH:=hH rfl
 try simp only [Act.put,List.setIfInBounds_toArray,List.set_cons_zero,List.set_cons_succ]
 refine Late.Goes.one (i:=10) (by kernel_rfl) (by simp only [List.getElem?_toArray,List.getElem?_cons_succ,List.getElem?_cons_zero];rfl) (fun K hK=>?_)
 clear hH
 go_simp
 refine hK.out _ _ ?_ (fun hH=>?_)
 ·exact fun _=>HX1.out
 clear hK K
 have hH:=hH rfl
 try simp only [Act.put,List.setIfInBounds_toArray,List.set_cons_zero,List.set_cons_succ]
 refine Late.Goes.one (i:=11) (by kernel_rfl) (by simp only [List.getElem?_toArray,List.getElem?_cons_succ,List.getElem?_cons_zero];rfl) (fun K hK=>?_)
 clear hH
 go_simp
 refine hK.out _ _ ?_ (fun hH=>?_)
 ·exact fun _=>HX1.out
 clear hK K
 have hH:=hH rfl
 try simp only [Act.put,List.setIfInBounds_toArray,List.set_cons_zero,List.set_cons_succ]
 refine Late.Goes.one (i:=12) (by kernel_rfl) (by simp only [List.getElem?_toArray,List.getElem?_cons_succ,List.getElem?_cons_zero];rfl) (fun K hK=>?_)
 clear hH
 go_simp
 refine hK.out _ _ ?_ (fun hH=>?_)
 ·exact fun _=>HX1.out
 clear hK K
 have hH:=hH rfl
 try simp only [Act.put,List.setIfInBounds_toArray,List.set_cons_zero,List.set_cons_succ]
 refine Late.Goes.one (i:=13) (by kernel_rfl) (by simp only [List.getElem?_toArray,List.getElem?_cons_succ,List.getElem?_cons_zero];rfl) (fun K hK=>?_)
 clear hH
 go_simp
 refine hK.out _ _ ?_ (fun hH=>?_)
 ·exact fun _=>HX1.out
 clear hK K
 have hH:=hH rfl
 try simp only [Act.put,List.setIfInBounds_toArray,List.set_cons_zero,List.set_cons_succ]
 refine Late.Goes.one (i:=14) (by kernel_rfl) (by simp only [List.getElem?_toArray,List.getElem?_cons_succ,List.getElem?_cons_zero];rfl) (fun K hK=>?_)
 clear hH
 go_simp
 refine hK.out _ _ ?_ (fun hH=>?_)
 ·exact fun _=>HX1.out
 clear hK K
 have hH:=hH rfl
 try simp only [Act.put,List.setIfInBounds_toArray,List.set_cons_zero,List.set_cons_succ]
 refine Late.Goes.one (i:=15) (by kernel_rfl) (by simp only [List.getElem?_toArray,List.getElem?_cons_succ,List.getElem?_cons_zero];rfl) (fun K hK=>?_)
 clear hH
 go_simp
 refine hK.out _ _ ?_ (fun hH=>?_)
 ·exact fun _=>HX1.out
 clear hK K
 have hH:=hH rfl
 try simp only [Act.put,List.setIfInBounds_toArray,List.set_cons_zero,List.set_cons_succ]
 refine Late.Goes.one (i:=16) (by kernel_rfl) (by simp only [List.getElem?_toArray,List.getElem?_cons_succ,List.getElem?_cons_zero];rfl) (fun K hK=>?_)
 clear hH
 go_simp
 refine hK.out _ _ ?_ (fun hH=>?_)
 ·exact fun _=>HX1.out
 clear hK K
 have hH:=hH rfl
 try simp only [Act.put,List.setIfInBounds_toArray,List.set_cons_zero,List.set_cons_succ]
 refine Late.Goes.one (i:=17) (by kernel_rfl) (by simp only [List.getElem?_toArray,List.getElem?_cons_succ,List.getElem?_cons_zero];rfl) (fun K hK=>?_)
 clear hH
 go_simp
 refine hK.out _ _ ?_ (fun hH=>?_)
 ·exact fun _=>HX1.out
 clear hK K
 have hH:=hH rfl
 try simp only [Act.put,List.setIfInBounds_toArray,List.set_cons_zero,List.set_cons_succ]
 refine Late.Goes.one (i:=18) (by kernel_rfl) (by simp only [List.getElem?_toArray,List.getElem?_cons_succ,List.getElem?_cons_zero];rfl) (fun K hK=>?_)
 clear hH
 go_simp
 refine hK.out _ _ ?_ (fun hH=>?_)
 ·exact fun _=>HX1.out
 clear hK K
 have hH:=hH rfl
 try simp only [Act.put,List.setIfInBounds_toArray,List.set_cons_zero,List.set_cons_succ]
 refine Late.Goes.done (by kernel_rfl) ?_ _
 clear hH hx hne heq
 go_wp2
 go_ret
 exact ⟨rfl,HB.out⟩
end Go.Proofs.YtgjofinbdigmcaaGreat.Rec
end
section
namespace Go.Proofs.YtgjofinbdigmcaaGreat.Rec
open Go.Proofs.YtgjofinbdigmcaaGreat.Mem Go.Proofs.YtgjofinbdigmcaaGreat.Pack
open Go.ChangeShapes Go.WideShapes Go.ChangeAt Go.RowKit
theorem may_pass (r:Rcd) (hr:r=named r) (h0:0≤r.bucket) (h1:r.bucket < 64) (h2:1≤r.gen) (hk:1≤r.kind∧r.kind≤7) (w:World):Calls Tryz.prog 28 #[rv r] w fun e w'=>e = .returned (.bool (decide (fits r)))∧Below w.heap.size w w':=by
 have hn:=fun w=>named_any r w
 rw [← hr] at hn
 have hne:=fun w=>rec_neq r r w
 have heq:=fun w=>rec_equal r r w
 rw [decide_eq_true (rfl:r=r)] at hne heq
 simp only [Bool.not_true] at hne
 clear hr
 obtain ⟨k,b,g,q1,q2,q3,s1,s2,ri,se,ke,va,ve,ex⟩:=r
 obtain ⟨y,hy⟩:∃ y,y=decide (fits ⟨k,b,g,q1,q2,q3,s1,s2,ri,se,ke,va,ve,ex⟩):=⟨_,rfl⟩
 rw [← hy]
 have HY:=Lib.hid hy
 clear hy
 simp only at hk
 have HK:=Lib.hid hk
 clear hk
 simp only [rv,cells] at hn hne heq ⊢
 have e0:¬ (b < 0):=by simp only at h0;omega
 have d0:decide (b < 0)=false:=decide_eq_false e0
 clear h0
 have e1:¬ (64≤b):=by simp only at h1;omega
 have d1:decide (64≤b)=false:=decide_eq_false e1
 clear h1
 have e2:¬ ((g:Int) < 1):=by simp only at h2;omega
 have d2:decide ((g:Int) < 1)=false:=decide_eq_false e2
 clear h2
 have HN:=Lib.hid hn
 clear hn
 have hx:Box (w.alloc (.cells (cells ⟨k,b,g,q1,q2,q3,s1,s2,ri,se,ke,va,ve,ex⟩) 35)) w.heap.size (cells ⟨k,b,g,q1,q2,q3,s1,s2,ri,se,ke,va,ve,ex⟩):=heap_new _ _
 simp only [cells] at hx
 go_enter Tryz.func28,Tryz.ntmps28
 go_wp2_with fail
 refine Late.region_goes (fun u=>Box u w.heap.size #[.int .i64 k,.int .i64 b,.int .u32 (g:Int),.int .i64 q1,.int .i64 q2,.int .i64 q3,.int .u64 (s1:Int),.int .u32 (s2:Int),.int .i64 ri,.int .u64 (se:Int),.string ke,.string va,.int .u64 (ve:Int),.int .u64 (ex:Int)]) (fun _=>false) (by kernel_rfl) ?_ (fun hH=>?_)
 ·exact hx
 refine Late.Goes.take (i:=0) (v:=?_) (by simp only [List.getElem?_toArray,List.getElem?_cons_succ,List.getElem?_cons_zero];rfl) (by kernel_rfl) (by kernel_rfl) (by kernel_rfl) (by kernel_rfl) (by exact fun _ _ _ h=>h) (Or.inl ⟨by rfl,?_⟩) hH ?_
 rotate_left
 ·(intro wy hSw;(try dsimp only at hSw);have c0:=Box.cell hSw 0 rfl;have c1:=Box.cell hSw 1 rfl;have c2:=Box.cell hSw 2 rfl;have c3:=Box.cell hSw 3 rfl;have c4:=Box.cell hSw 4 rfl;have c5:=Box.cell hSw 5 rfl;have c6:=Box.cell hSw 6 rfl;have c7:=Box.cell hSw 7 rfl;have c8:=Box.cell hSw 8 rfl;have c9:=Box.cell hSw 9 rfl;have c10:=Box.cell hSw 10 rfl;have c11:=Box.cell hSw 11 rfl;have c12:=Box.cell hSw 12 rfl;have c13:=Box.cell hSw 13 rfl;go_simp;try (with_reducible rfl))
 try simp only [Act.put,List.setIfInBounds_toArray,List.set_cons_zero,List.set_cons_succ]
 refine Late.Goes.take (i:=1) (v:=?_) (by simp only [List.getElem?_toArray,List.getElem?_cons_succ,List.getElem?_cons_zero];rfl) (by kernel_rfl) (by kernel_rfl) (by kernel_rfl) (by kernel_rfl) (by exact fun _ _ _ h=>h) (Or.inl ⟨by rfl,?_⟩) hH ?_
 rotate_left
 ·(intro wy hSw;(try dsimp only at hSw);have c0:=Box.cell hSw 0 rfl;have c1:=Box.cell hSw 1 rfl;have c2:=Box.cell hSw 2 rfl;have c3:=Box.cell hSw 3 rfl;have c4:=Box.cell hSw 4 rfl;have c5:=Box.cell hSw 5 rfl;have c6:=Box.cell hSw 6 rfl;have c7:=Box.cell hSw 7 rfl;have c8:=Box.cell hSw 8 rfl;have c9:=Box.cell hSw 9 rfl;have c10:=Box.cell hSw 10 rfl;have c11:=Box.cell hSw 11 rfl;have c12:=Box.cell hSw 12 rfl;have c13:=Box.cell hSw 13 rfl;go_simp;try (with_reducible rfl))
 try simp only [Act.put,List.setIfInBounds_toArray,List.set_cons_zero,List.set_cons_succ]
 refine Late.Goes.one (i:=2) (by kernel_rfl) (by simp only [List.getElem?_toArray,List.getElem?_cons_succ,List.getElem?_cons_zero];rfl) (fun K hK=>?_)
 clear hH
 go_simp
 go_at_call 58
 refine (HN.out _).mono ?_
 rintro e w1 ⟨rfl,hb⟩
 have hx1:Box w1 w.heap.size #[.int .i64 k,.int .i64 b,.int .u32 (g:Int),.int .i64 q1,.int .i64 q2,.int .i64 q3,.int .u64 (s1:Int),.int .u32 (s2:Int),.int .i64 ri,.int .u64 (se:Int),.string ke,.string va,.int .u64 (ve:Int),.int .u64 (ex:Int)]:=(hb.block w.heap.size (by simp)).trans (heap_new w _)
 have hb1:Below w.heap.size w w1:=((Below.refl _ w).alloc (Nat.le_refl _) _).drew.trans (hb.mono (by simp))
 have HB:=Lib.hid hb1
 have c0:w1.cell? ⟨w.heap.size,0,none⟩=some (.int .i64 k):=hx1.cell 0 rfl
 have c1:w1.cell? ⟨w.heap.size,1,none⟩=some (.int .i64 b):=hx1.cell 1 rfl
 have c2:w1.cell? ⟨w.heap.size,2,none⟩=some (.int .u32 (g:Int)):=hx1.cell 2 rfl
 have HX1:=Lib.hid hx1
 clear hb hb1 hx1
 refine hK.out _ _ ?_ (fun hH=>?_)
 ·exact fun _=>HX1.out
 clear hK K
 have hH:=hH rfl
 try simp only [Act.put,List.setIfInBounds_toArray,List.set_cons_zero,List.set_cons_succ]
 refine Late.Goes.one (i:=3) (by kernel_rfl) (by simp only [List.getElem?_toArray,List.getElem?_cons_succ,List.getElem?_cons_zero];rfl) (fun K hK=>?_)
 clear hH
 go_simp
 refine hK.out _ _ ?_ (fun hH=>?_)
 ·exact fun _=>HX1.out
 clear hK K
 have hH:=hH rfl
 try simp only [Act.put,List.setIfInBounds_toArray,List.set_cons_zero,List.set_cons_succ]
 refine Late.Goes.one (i:=4) (by kernel_rfl) (by simp only [List.getElem?_toArray,List.getElem?_cons_succ,List.getElem?_cons_zero];rfl) (fun K hK=>?_)
 clear hH
 go_simp
 refine hK.out _ _ ?_ (fun hH=>?_)
 ·exact fun _=>HX1.out
 clear hK K
 have hH:=hH rfl
 try simp only [Act.put,List.setIfInBounds_toArray,List.set_cons_zero,List.set_cons_succ]
 refine Late.Goes.one (i:=5) (by kernel_rfl) (by simp only [List.getElem?_toArray,List.getElem?_cons_succ,List.getElem?_cons_zero];rfl) (fun K hK=>?_)
 clear hH
 go_simp
 refine hK.out _ _ ?_ (fun hH=>?_)
 ·exact fun _=>HX1.out
 clear hK K
 have hH:=hH rfl
 try simp only [Act.put,List.setIfInBounds_toArray,List.set_cons_zero,List.set_cons_succ]
 refine Late.Goes.one (i:=6) (by kernel_rfl) (by simp only [List.getElem?_toArray,List.getElem?_cons_succ,List.getElem?_cons_zero];rfl) (fun K hK=>?_)
 clear hH
 go_simp
 refine hK.out _ _ ?_ (fun hH=>?_)
 ·exact fun _=>HX1.out
 clear hK K
 have hH:=hH rfl
 try simp only [Act.put,List.setIfInBounds_toArray,List.set_cons_zero,List.set_cons_succ]
 refine Late.Goes.one (i:=7) (by kernel_rfl) (by simp only [List.getElem?_toArray,List.getElem?_cons_succ,List.getElem?_cons_zero];rfl) (fun K hK=>?_)
 clear hH
 go_simp
 refine hK.out _ _ ?_ (fun hH=>?_)
 ·exact fun _=>HX1.out
 clear hK K
 have hH:=hH rfl
 try simp only [Act.put,List.setIfInBounds_toArray,List.set_cons_zero,List.set_cons_succ]
 refine Late.Goes.one (i:=8) (by kernel_rfl) (by simp only [List.getElem?_toArray,List.getElem?_cons_succ,List.getElem?_cons_zero];rfl) (fun K hK=>?_)
 clear hH
 go_simp
 refine hK.out _ _ ?_ (fun hH=>?_)
 ·exact fun _=>HX1.out
 clear hK K
 have hH:=hH rfl
 try simp only [Act.put,List.setIfInBounds_toArray,List.set_cons_zero,List.set_cons_succ]
 refine Late.Goes.one (i:=9) (by kernel_rfl) (by simp only [List.getElem?_toArray,List.getElem?_cons_succ,List.getElem?_cons_zero];rfl) (fun K hK=>?_)
 clear hH
 go_simp
 refine hK.out _ _ ?_ (fun hH=>?_)
 ·exact fun _=>HX1.out
 clear hK K
 have hH:=hH rfl
 try simp only [Act.put,List.setIfInBounds_toArray,List.set_cons_zero,List.set_cons_succ]
 refine Late.Goes.one (i:=10) (by kernel_rfl) (by simp only [List.getElem?_toArray,List.getElem?_cons_succ,List.getElem?_cons_zero];rfl) (fun K hK=>?_)
 clear hH
 go_simp
 refine hK.out _ _ ?_ (fun hH=>?_)
 ·exact fun _=>HX1.out
 clear hK K
 have hH:=hH rfl
 try simp only [Act.put,List.setIfInBounds_toArray,List.set_cons_zero,List.set_cons_succ]
 refine Late.Goes.one (i:=11) (by kernel_rfl) (by simp only [List.getElem?_toArray,List.getElem?_cons_succ,List.getElem?_cons_zero];rfl) (fun K hK=>?_)
 clear hH
 go_simp
 refine hK.out _ _ ?_ (fun hH=>?_)
 ·exact fun _=>HX1.out
 clear hK K
 have hH:=hH rfl
 try simp only [Act.put,List.setIfInBounds_toArray,List.set_cons_zero,List.set_cons_succ]
 refine Late.Goes.one (i:=12) (by kernel_rfl) (by simp only [List.getElem?_toArray,List.getElem?_cons_succ,List.getElem?_cons_zero];rfl) (fun K hK=>?_)
 clear hH
 go_simp
 refine hK.out _ _ ?_ (fun hH=>?_)
 ·exact fun _=>HX1.out
 clear hK K
 have hH:=hH rfl
 try simp only [Act.put,List.setIfInBounds_toArray,List.set_cons_zero,List.set_cons_succ]
 refine Late.Goes.one (i:=13) (by kernel_rfl) (by simp only [List.getElem?_toArray,List.getElem?_cons_succ,List.getElem?_cons_zero];rfl) (fun K hK=>?_)
 clear hH
 go_simp
 refine hK.out _ _ ?_ (fun hH=>?_)
 ·exact fun _=>HX1.out
 clear hK K
 have hH:=hH rfl
 try simp only [Act.put,List.setIfInBounds_toArray,List.set_cons_zero,List.set_cons_succ]
 refine Late.Goes.one (i:=14) (by kernel_rfl) (by simp only [List.getElem?_toArray,List.getElem?_cons_succ,List.getElem?_cons_zero];rfl) (fun K hK=>?_)
 clear hH
 go_simp
 refine hK.out _ _ ?_ (fun hH=>?_)
 ·exact fun _=>HX1.out
 clear hK K
 have hH:=hH rfl
 try simp only [Act.put,List.setIfInBounds_toArray,List.set_cons_zero,List.set_cons_succ]
 refine Late.Goes.one (i:=15) (by kernel_rfl) (by simp only [List.getElem?_toArray,List.getElem?_cons_succ,List.getElem?_cons_zero];rfl) (fun K hK=>?_)
 clear hH
 go_simp
 refine hK.out _ _ ?_ (fun hH=>?_)
 ·exact fun _=>HX1.out
 clear hK K
 have hH:=hH rfl
 try simp only [Act.put,List.setIfInBounds_toArray,List.set_cons_zero,List.set_cons_succ]
 refine Late.Goes.one (i:=16) (by kernel_rfl) (by simp only [List.getElem?_toArray,List.getElem?_cons_succ,List.getElem?_cons_zero];rfl) (fun K hK=>?_)
 clear hH
 go_simp
 refine hK.out _ _ ?_ (fun hH=>?_)
 ·exact fun _=>HX1.out
 clear hK K
 have hH:=hH rfl
 try simp only [Act.put,List.setIfInBounds_toArray,List.set_cons_zero,List.set_cons_succ]
 refine Late.Goes.one (i:=17) (by kernel_rfl) (by simp only [List.getElem?_toArray,List.getElem?_cons_succ,List.getElem?_cons_zero];rfl) (fun K hK=>?_)
 clear hH
 go_simp
 refine hK.out _ _ ?_ (fun hH=>?_)
 ·exact fun _=>HX1.out
 clear hK K
 have hH:=hH rfl
 try simp only [Act.put,List.setIfInBounds_toArray,List.set_cons_zero,List.set_cons_succ]
 refine Late.Goes.one (i:=18) (by kernel_rfl) (by simp only [List.getElem?_toArray,List.getElem?_cons_succ,List.getElem?_cons_zero];rfl) (fun K hK=>?_)
 clear hH
 go_simp
 refine hK.out _ _ ?_ (fun hH=>?_)
 ·exact fun _=>HX1.out
 clear hK K
 have hH:=hH rfl
 try simp only [Act.put,List.setIfInBounds_toArray,List.set_cons_zero,List.set_cons_succ]
 refine Late.Goes.done (by kernel_rfl) ?_ _
 clear hH hx hne heq
 have hk7:k=1∨k=2∨k=3∨k=4∨k=5∨k=6∨k=7:=by have:=HK.out;omega
 clear HK
 have c3:w1.cell? ⟨w.heap.size,3,none⟩=some (.int .i64 q1):=HX1.out.cell 3 rfl
 have c4:w1.cell? ⟨w.heap.size,4,none⟩=some (.int .i64 q2):=HX1.out.cell 4 rfl
 have c5:w1.cell? ⟨w.heap.size,5,none⟩=some (.int .i64 q3):=HX1.out.cell 5 rfl
 have c8:w1.cell? ⟨w.heap.size,8,none⟩=some (.int .i64 ri):=HX1.out.cell 8 rfl
 have c10:w1.cell? ⟨w.heap.size,10,none⟩=some (.string ke):=HX1.out.cell 10 rfl
 have c11:w1.cell? ⟨w.heap.size,11,none⟩=some (.string va):=HX1.out.cell 11 rfl
 rcases hk7 with rfl|rfl|rfl|rfl|rfl|rfl|rfl
 ·by_cases hf:inQ q1∧inQ q2∧inQ q3
  ·go_wp2_with fail
   refine (quota_yes q1 q2 q3 hf w1).mono ?_
   rintro e w2 ⟨rfl,hb2⟩
   have HBX:=Lib.hid (HB.out.trans (hb2.mono HB.out.size))
   clear hb2
   go_wp2_with fail
   go_ret
   have hy:y=true:=by rw [HY.out];exact decide_eq_true (by simp only [fits];first|exact hf|simpa using hf)
   exact ⟨by rw [hy];rfl,HBX.out⟩
  ·go_wp2_with fail
   refine (quota_no q1 q2 q3 hf w1).mono ?_
   rintro e w2 ⟨rfl,hb2⟩
   have HBX:=Lib.hid (HB.out.trans (hb2.mono HB.out.size))
   clear hb2
   go_wp2_with fail
   go_ret
   have hy:y=false:=by rw [HY.out];exact decide_eq_false (by simp only [fits];first|exact hf|simpa using hf)
   exact ⟨by rw [hy];rfl,HBX.out⟩
 ·have HBX:=HB
  go_wp2
  go_ret
  have hy:y=true:=by rw [HY.out];exact decide_eq_true (by simp [fits])
  exact ⟨by rw [hy];rfl,HBX.out⟩
 ·by_cases hf:keyMay ke
  ·have HBX:=HB
   by_cases hv:va.size≤1000
   ·go_wp2_with fail
    refine (key_yes ke hf w1).mono ?_
    rintro e w2 ⟨rfl,rfl⟩
    have dv:decide ((va.size:Int)≤1000)=true:=decide_eq_true (by omega)
    go_wp2_with fail
    go_ret
    have hy:y=true:=by rw [HY.out];exact decide_eq_true (by simp only [fits];simp [hf,hv])
    exact ⟨by rw [hy];rfl,HBX.out⟩
   ·go_wp2_with fail
    refine (key_yes ke hf w1).mono ?_
    rintro e w2 ⟨rfl,rfl⟩
    have hv2:1000 < va.size:=by omega
    have dv:decide ((va.size:Int)≤1000)=false:=decide_eq_false (by omega)
    go_wp2_with fail
    go_ret
    have hy:y=false:=by rw [HY.out];exact decide_eq_false (by simp only [fits];simp [hf,hv])
    exact ⟨by rw [hy];rfl,HBX.out⟩
  ·have HBX:=HB
   go_wp2_with fail
   refine (key_no ke hf w1).mono ?_
   rintro e w2 ⟨rfl,rfl⟩
   go_wp2_with fail
   go_ret
   have hy:y=false:=by rw [HY.out];exact decide_eq_false (by simp only [fits];simp [hf])
   exact ⟨by rw [hy];rfl,HBX.out⟩
 ·by_cases hf:keyMay ke
  ·have HBX:=HB
   go_wp2_with fail
   refine (key_yes ke hf w1).mono ?_
   rintro e w2 ⟨rfl,rfl⟩
   go_wp2_with fail
   go_ret
   have hy:y=true:=by rw [HY.out];exact decide_eq_true (by simpa [fits] using hf)
   exact ⟨by rw [hy];rfl,HBX.out⟩
  ·have HBX:=HB
   go_wp2_with fail
   refine (key_no ke hf w1).mono ?_
   rintro e w2 ⟨rfl,rfl⟩
   go_wp2_with fail
   go_ret
   have hy:y=false:=by rw [HY.out];exact decide_eq_false (by simpa [fits] using hf)
   exact ⟨by rw [hy];rfl,HBX.out⟩
 ·have HBX:=HB
  by_cases hl:1≤ri
  ·by_cases hh:ri≤7
   ·have dh:decide (ri≤7)=true:=decide_eq_true hh
    have dl:decide (1≤ri)=true:=decide_eq_true hl
    go_wp2
    go_ret
    have hy:y=true:=by rw [HY.out];exact decide_eq_true (show 1≤ri∧ri≤7 from ⟨hl,hh⟩)
    exact ⟨by rw [hy];rfl,HBX.out⟩
   ·have dh:decide (ri≤7)=false:=decide_eq_false hh
    have dl:decide (1≤ri)=true:=decide_eq_true hl
    go_wp2
    go_ret
    have hy:y=false:=by rw [HY.out];exact decide_eq_false (fun h=>absurd (show 1≤ri∧ri≤7 from h).2 (by omega))
    exact ⟨by rw [hy];rfl,HBX.out⟩
  ·have dl:decide (1≤ri)=false:=decide_eq_false hl
   go_wp2
   go_ret
   have hy:y=false:=by rw [HY.out];exact decide_eq_false (fun h=>absurd (show 1≤ri∧ri≤7 from h).1 (by omega))
   exact ⟨by rw [hy];rfl,HBX.out⟩
 ·have HBX:=HB
  go_wp2
  go_ret
  have hy:y=true:=by rw [HY.out];exact decide_eq_true (by simp [fits])
  exact ⟨by rw [hy];rfl,HBX.out⟩
 ·have HBX:=HB
  go_wp2
  go_ret
  have hy:y=true:=by rw [HY.out];exact decide_eq_true (by simp [fits])
  exact ⟨by rw [hy];rfl,HBX.out⟩
end Go.Proofs.YtgjofinbdigmcaaGreat.Rec
end

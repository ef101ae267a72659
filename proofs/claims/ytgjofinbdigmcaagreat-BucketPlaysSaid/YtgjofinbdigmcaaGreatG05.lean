/- Contracts of the program's New and Put. -/
import Derived.Test.YtgjofinbdigmcaaGreatG04
set_option linter.unusedSimpArgs false
set_option linter.unusedVariables false
set_option maxHeartbeats 1000000
set_option maxRecDepth 100000
namespace Go.Proofs.YtgjofinbdigmcaaGreat.Key
open Go.Proofs.YtgjofinbdigmcaaGreat.Mem Go.Proofs.YtgjofinbdigmcaaGreat.Fnv
open Go.ChangeShapes Go.WideShapes Go.ChangeAt Go.RowKit
theorem alloc_size (w:World) (o:Obj):(w.alloc o).heap.size=w.heap.size+1:=by simp
section
variable {w:World} {p g i kn:Nat} {T:Tab}
theorem knew_any (w:World) :
  Calls Tryz.prog 21 #[] w fun e w'=>e = .returned (.pointer (some ⟨w.heap.size+1,0,none⟩))∧KAt w' (w.heap.size+1) w.heap.size (List.replicate 8 none) 0 (cnt (List.replicate 8 none))∧But (fun _=>False) w w':=by
 obtain ⟨X,hX⟩:∃ X,X=(w.alloc (.cells (rowT (List.replicate 8 none)).toArray 118)):=⟨_,rfl⟩
 have h1:Blk X w.heap.size 118 (rowT (List.replicate 8 none)).toArray:=by rw [hX];exact Blk.new _ _ _
 have hs:X.heap.size=w.heap.size+1:=by rw [hX];exact alloc_size _ _
 have hb:But (fun _=>False) w X:=by rw [hX];exact (But.refl _ w).alloc _
 have h2:=Blk.new X 94 #[.slice (some ⟨w.heap.size,0,none⟩) 8 8,.int .i64 0]
 rw [hs] at h2
 have HX:=Lib.hid hX
 have H1:=Lib.hid (h1.but ((But.refl (fun _=>False) X).alloc (.cells #[.slice (some ⟨w.heap.size,0,none⟩) 8 8,.int .i64 0] 94)) (fun h=>h))
 have H2:=Lib.hid h2
 have HB:=Lib.hid (hb.alloc (.cells #[.slice (some ⟨w.heap.size,0,none⟩) 8 8,.int .i64 0] 94))
 clear h1 hb h2 hX
 go_enter Tryz.func21,Tryz.ntmps21
 go_wp2_with (at_make;refine wpList_make_flat rfl _ _ 92 rfl 118 _ 8 72 Tryz.underlying92 place_info pcells none (by omega) pcells_length rfl _ _ 8 rfl rfl (by omega) (by omega) (by omega) (by omega) ?_;change wpList _ _ _ _ _ (w.alloc (.cells (rowT (List.replicate 8 none)).toArray 118));rw [← HX.out])
 go_ret
 refine ⟨rfl,⟨?_,H1.out,good_new,?_,by omega⟩,HB.out⟩
 ·exact H2.out
 ·intro e he
  have:=(List.mem_replicate.1 he).2
  cases this
theorem KAt.put_ {w:World} {p g i kn:Nat} {T:Tab} (h:KAt w p g T i kn) {j:Nat} (hj:j < T.length) (o:Option Ent) (hg:Good (T.set j o) (i+1)) (hi:i+1≤400) (hs:∀ e,o=some e→e.key.size≤200) :
  KAt (w.setCells g (j * 8) (pcells o)) p g (T.set j o) (i+1) kn where
 blk:=by
  rw [List.length_set]
  exact h.blk.but (but_setCells g _ _ w) (fun e=>h.blk.ne_ h.row (by decide) e)
 row:=row_put h.row hj o
 good:=hg
 small:=fun e he=>by
  rcases List.mem_or_eq_of_mem_set he with h1|h1
  ·exact h.small e h1
  ·exact hs e h1.symm
 few:=hi
theorem KAt.count {w:World} {p g i kn:Nat} {T:Tab} (h:KAt w p g T i kn) (kn':Nat):KAt (w.setCell ⟨p,1,none⟩ (.int .i64 (kn':Int))) p g T i kn' where
 blk:=h.blk.set_ 1 _
 row:=h.row.but ((But.refl (fun k=>k=p) w).setCell (p:=⟨p,1,none⟩) rfl _) (fun e=>h.blk.ne_ h.row (by decide) e.symm)
 good:=h.good
 small:=h.small
 few:=h.few
theorem box_entry1 {w:World} {b:Nat} {t:TypeId} {e:Ent} (h:Blk w b t (ecells e).toArray):w.rangeAt b 0 (ecells e):=ent_range h
theorem kput_there (h:KAt w p g T i (cnt T)) (e f:Ent) (he:e.key.size≤200) (hi:i+1≤400) (ha:ask T e.key=some f) :
  Calls Tryz.prog 61 #[.pointer (some ⟨p,0,none⟩),ev e] w fun x w'=>x = .returned (.tuple #[])∧KAt w' p g (put T e) (i+1) (cnt (put T e))∧But (fun k=>k=p∨k=g) w w':=by
 obtain ⟨l1,l2⟩:=h.lt
 have hfl:=find_lt (show 0 < T.length by omega) e.key
 have HP:=Lib.hid (show put T e=T.set (find T e.key) (some e) from put_there ha)
 have HCN:=Lib.hid (show cnt (put T e)=cnt T by rw [cnt_put h.good,ha];rfl)
 have HG1:=Lib.hid (h.good.lay e (fun h1=>by rw [ha] at h1;cases h1))
 have hgd:Good (T.set (find T e.key) (some e)) (i+1):=HG1.out
 have HE0:=Lib.hid (show Blk (w.alloc (.cells (ecells e).toArray 45)) w.heap.size 45 (ecells e).toArray from Blk.new _ _ _)
 have HB0:=Lib.hid ((But.refl (fun _=>False) w).alloc (.cells (ecells e).toArray 45))
 have HA0:=Lib.hid (h.but HB0.out (fun h=>h) (fun h=>h))
 change Calls _ _ #[.pointer (some ⟨p,0,none⟩),.agg #[.string e.key,.int .i64 e.seg,.int .i64 e.at_,.int .i64 e.len,.int .u64 (e.ver:Int),.int .u64 (e.exp:Int),.int .i64 e.size]] w _
 have HF:=Lib.hid (kfind_any HA0.out e.key he)
 have c0:=HA0.out.blk.cell 0
 have hcells:=Blk.cells HA0.out.row hfl
 obtain ⟨a0,-,-,-,-,-,-,-⟩:=hcells
 have hl:look T (find T e.key)=some f:=ha
 rw [hl] at a0
 have HN1:=Lib.hid (show T.length=T.length from rfl)
 obtain ⟨n1,hn1⟩:∃ n,n=T.length:=⟨_,rfl⟩
 obtain ⟨m1,hm1⟩:∃ m,m=find T e.key:=⟨_,rfl⟩
 rw [← hm1] at HP HF a0 hfl hgd
 rw [← hn1] at c0 l1 l2 hfl
 have e0:(w.alloc (.cells (ecells e).toArray 45)).cell? ⟨g,m1 * 8,none⟩=some (.bool true):=a0
 have e1:(w.alloc (.cells (ecells e).toArray 45)).cell? ⟨p,0,none⟩=some (.slice (some ⟨g,0,none⟩) n1 n1):=c0
 clear a0 c0 hl h ha HG1 HN1
 have HN1:=Lib.hid hn1
 have HGD:=Lib.hid hgd
 clear hm1 hn1 hgd
 go_enter Tryz.func61,Tryz.ntmps61
 go_wp2_with fail
 change Calls _ _ _ (w.alloc (.cells (ecells e).toArray 45)) _
 refine HF.out.mono ?_
 rintro x w' ⟨rfl,rfl⟩
 obtain ⟨b3,hb3⟩:∃ b,b=w.heap.size:=⟨_,rfl⟩
 rw [← hb3] at HE0 ⊢
 have HB3:=Lib.hid hb3
 clear hb3 HF
 generalize w.alloc (.cells (ecells e).toArray 45)=W9 at HE0 HB0 HA0 e0 e1 ⊢
 go_wp2_with fail
 have HD:=Lib.hid ((But.refl (fun _=>False) W9).drew)
 have HA8:=Lib.hid (HA0.out.but HD.out (fun h=>h) (fun h=>h))
 have HE8:=Lib.hid (HE0.out.but HD.out (fun h=>h))
 have HCP:=Lib.hid (show W9.drew.cell? ⟨p,0,none⟩=some (.slice (some ⟨g,0,none⟩) n1 n1) by have:=HA8.out.blk.cell 0;rw [← HN1.out] at this;exact this)
 have HR:=Lib.hid (box_entry1 HE8.out)
 have HST:=Lib.hid (KAt.put_ HA8.out (by rw [← HN1.out];exact hfl) (some e) HGD.out hi (fun f hf=>by injection hf with hf;subst hf;exact he))
 have HTH:=Lib.hid (row_there HA8.out.row (by rw [← HN1.out];exact hfl))
 have hmi:(m1:Int) < (n1:Int):=by omega
 refine Late.region_goes (fun V=>V=W9.drew) (fun i=>i == 8) (by kernel_rfl) ?_ (fun hH=>?_)
 ·rfl
 refine Late.Goes.takeT (i:=0) (v:=?_) (by simp only [List.getElem?_toArray,List.getElem?_cons_succ,List.getElem?_cons_zero];rfl) (by kernel_rfl) (by kernel_rfl) (by kernel_rfl) (by kernel_rfl) (by kernel_rfl) (by exact fun _ _ _ h=>h) (Or.inl ⟨by rfl,?_⟩) hH ?_
 rotate_left
 ·(intro wy hSw;(try dsimp only at hSw);subst hSw;have k0:=HCP.out;go_simp;try (with_reducible rfl))
 try simp only [Act.put,List.setIfInBounds_toArray,List.set_cons_zero,List.set_cons_succ]
 refine Late.Goes.takeT (i:=1) (v:=?_) (by simp only [List.getElem?_toArray,List.getElem?_cons_succ,List.getElem?_cons_zero];rfl) (by kernel_rfl) (by kernel_rfl) (by kernel_rfl) (by kernel_rfl) (by kernel_rfl) (by exact fun _ _ _ h=>h) (Or.inl ⟨by rfl,?_⟩) hH ?_
 rotate_left
 ·(intro wy hSw;(try dsimp only at hSw);subst hSw;have k0:=HCP.out;go_simp;try (with_reducible rfl))
 try simp only [Act.put,List.setIfInBounds_toArray,List.set_cons_zero,List.set_cons_succ]
 refine Late.Goes.takeT (i:=2) (v:=?_) (by simp only [List.getElem?_toArray,List.getElem?_cons_succ,List.getElem?_cons_zero];rfl) (by kernel_rfl) (by kernel_rfl) (by kernel_rfl) (by kernel_rfl) (by kernel_rfl) (by exact fun _ _ _ h=>h) (Or.inl ⟨by rfl,?_⟩) hH ?_
 rotate_left
 ·(intro wy hSw;(try dsimp only at hSw);subst hSw;have k0:=HCP.out;go_simp;try (with_reducible rfl))
 try simp only [Act.put,List.setIfInBounds_toArray,List.set_cons_zero,List.set_cons_succ]
 refine Late.Goes.takeT (i:=3) (v:=?_) (by simp only [List.getElem?_toArray,List.getElem?_cons_succ,List.getElem?_cons_zero];rfl) (by kernel_rfl) (by kernel_rfl) (by kernel_rfl) (by kernel_rfl) (by kernel_rfl) (by exact fun _ _ _ h=>h) (Or.inl ⟨by rfl,?_⟩) hH ?_
 rotate_left
 ·(intro wy hSw;(try dsimp only at hSw);subst hSw;have k0:=HCP.out;go_simp;try (with_reducible rfl))
 try simp only [Act.put,List.setIfInBounds_toArray,List.set_cons_zero,List.set_cons_succ]
 refine Late.Goes.takeT (i:=4) (v:=?_) (by simp only [List.getElem?_toArray,List.getElem?_cons_succ,List.getElem?_cons_zero];rfl) (by kernel_rfl) (by kernel_rfl) (by kernel_rfl) (by kernel_rfl) (by kernel_rfl) (by exact fun _ _ _ h=>h) (Or.inl ⟨by rfl,?_⟩) hH ?_
 rotate_left
 ·(intro wy hSw;(try dsimp only at hSw);subst hSw;have k0:=HCP.out;go_simp;try (with_reducible rfl))
 try simp only [Act.put,List.setIfInBounds_toArray,List.set_cons_zero,List.set_cons_succ]
 refine Late.Goes.takeT (i:=5) (v:=_) (by simp only [List.getElem?_toArray,List.getElem?_cons_succ,List.getElem?_cons_zero];rfl) (by kernel_rfl) (by kernel_rfl) (by kernel_rfl) (by kernel_rfl) (by kernel_rfl) (by exact fun _ _ _ h=>h) (yields_entry (by rfl) _ rfl b3 0 rfl e (fun V hV=>by rw [hV];exact HR.out)) hH ?_
 try simp only [Act.put,List.setIfInBounds_toArray,List.set_cons_zero,List.set_cons_succ]
 simp only [ev,ecells]
 refine Late.Goes.takeT (i:=6) (v:=?_) (by simp only [List.getElem?_toArray,List.getElem?_cons_succ,List.getElem?_cons_zero];rfl) (by kernel_rfl) (by kernel_rfl) (by kernel_rfl) (by kernel_rfl) (by kernel_rfl) (by exact fun _ _ _ h=>h) (Or.inl ⟨by rfl,?_⟩) hH ?_
 rotate_left
 ·(intro wy hSw;(try dsimp only at hSw);subst hSw;have k0:=HCP.out;go_simp;try (with_reducible rfl))
 try simp only [Act.put,List.setIfInBounds_toArray,List.set_cons_zero,List.set_cons_succ]
 refine Late.Goes.takeT (i:=7) (v:=?_) (by simp only [List.getElem?_toArray,List.getElem?_cons_succ,List.getElem?_cons_zero];rfl) (by kernel_rfl) (by kernel_rfl) (by kernel_rfl) (by kernel_rfl) (by kernel_rfl) (by exact fun _ _ _ h=>h) (Or.inl ⟨by rfl,?_⟩) hH ?_
 rotate_left
 ·(intro wy hSw;(try dsimp only at hSw);subst hSw;have k0:=HCP.out;go_simp;try (with_reducible rfl))
 try simp only [Act.put,List.setIfInBounds_toArray,List.set_cons_zero,List.set_cons_succ]
 refine Late.Goes.one (i:=8) (by kernel_rfl) (by simp only [List.getElem?_toArray,List.getElem?_cons_succ,List.getElem?_cons_zero];rfl) (fun K hK=>?_)
 clear hH
 refine wp_store_blk (by rfl) 118 _ _ rfl g (m1 * 8) (pcells (some e)) rfl rfl (by rw [pcells_length];exact HTH.out) (by rw [pcells_length];exact place_size) (pcells_one _) ?_
 refine hK.out _ _ ?_ (fun _=>?_)
 ·exact fun h=>by cases h
 clear hK K
 try simp only [Act.put,List.setIfInBounds_toArray,List.set_cons_zero,List.set_cons_succ]
 refine Late.Goes.done (by kernel_rfl) ?_ _
 go_wp2_with fail
 go_end0
 exact ⟨rfl,by rw [HCN.out,HP.out];exact HST.out,((HB0.out.trans HD.out (fun j hj h=>h)).mono (T:=fun k=>k=p∨k=g) (fun j hj h=>h.elim)).trans (but_setCells g _ _ _) (fun j hj h => .inr h)⟩
theorem kput_wide (h:KAt w p g T i (cnt T)) (e:Ent) (he:e.key.size≤200) (hi:i+1≤400) (ha:ask T e.key=none) (ht:¬ tight T) :
  Calls Tryz.prog 61 #[.pointer (some ⟨p,0,none⟩),ev e] w fun x w'=>x = .returned (.tuple #[])∧∃ g',KAt w' p g' (put T e) (i+1) (cnt (put T e))∧(g'=g∨w.heap.size≤g')∧But (fun k=>k=p∨k=g) w w':=by
 obtain ⟨l1,l2⟩:=h.lt
 have hfl:=find_lt (show 0 < T.length by omega) e.key
 have HCN:=Lib.hid (show cnt (put T e)=cnt T+1 by rw [cnt_put h.good,ha];rfl)
 have HE0:=Lib.hid (show Blk (w.alloc (.cells (ecells e).toArray 45)) w.heap.size 45 (ecells e).toArray from Blk.new _ _ _)
 have HB0:=Lib.hid ((But.refl (fun _=>False) w).alloc (.cells (ecells e).toArray 45))
 have HA0:=Lib.hid (h.but HB0.out (fun h=>h) (fun h=>h))
 have HF:=Lib.hid (kfind_any HA0.out e.key he)
 have HPT:=Lib.hid (h.good.put e)
 have c0:=HA0.out.blk.cell 0
 have hcells:=Blk.cells HA0.out.row hfl
 obtain ⟨a0,-,-,-,-,-,-,-⟩:=hcells
 have hl:look T (find T e.key)=none:=ha
 rw [hl] at a0
 have hc1:cnt T≤400:=by have:=h.good.few;omega
 have HWD:=Lib.hid h.good
 have HHA:=Lib.hid ha
 have HT:=Lib.hid ht
 obtain ⟨n1,hn1⟩:∃ n,n=T.length:=⟨_,rfl⟩
 obtain ⟨m1,hm1⟩:∃ m,m=find T e.key:=⟨_,rfl⟩
 rw [← hm1] at HF a0 hfl
 rw [← hn1] at c0 l1 l2 hfl
 have e0:(w.alloc (.cells (ecells e).toArray 45)).cell? ⟨g,m1 * 8,none⟩=some (.bool false):=a0
 have e1:(w.alloc (.cells (ecells e).toArray 45)).cell? ⟨p,0,none⟩=some (.slice (some ⟨g,0,none⟩) n1 n1):=c0
 have HTI:=Lib.hid (show Calls _ _ _ _ _ from ktight_any HA0.out)
 have hlen:=hn1
 rw [show decide (tight T)=false from by simp [HT.out]] at HTI
 have HN1:=Lib.hid hn1
 have HM1:=Lib.hid hm1
 clear a0 c0 hl h ha hm1 hn1 ht hlen
 obtain ⟨c,hc⟩:∃ c,c=cnt T:=⟨_,rfl⟩
 rw [← hc] at HCN hc1 HA0
 have HCT:=Lib.hid hc
 clear hc
 change Calls _ _ #[.pointer (some ⟨p,0,none⟩),.agg #[.string e.key,.int .i64 e.seg,.int .i64 e.at_,.int .i64 e.len,.int .u64 (e.ver:Int),.int .u64 (e.exp:Int),.int .i64 e.size]] w _
 go_enter Tryz.func61,Tryz.ntmps61
 go_wp2_with fail
 change Calls _ _ _ (w.alloc (.cells (ecells e).toArray 45)) _
 refine HF.out.mono ?_
 rintro x w' ⟨rfl,rfl⟩
 obtain ⟨b3,hb3⟩:∃ b,b=w.heap.size:=⟨_,rfl⟩
 rw [← hb3] at HE0 ⊢
 have HB3:=Lib.hid hb3
 clear hb3 HF
 generalize w.alloc (.cells (ecells e).toArray 45)=W0 at HE0 HB0 HA0 HTI e0 e1 ⊢
 go_wp2_with fail
 refine HTI.out.mono ?_
 rintro x w' ⟨rfl,n,rfl⟩
 clear HTI e0 e1
 have HD0:=Lib.hid ((But.refl (fun _=>False) W0).drewN n)
 have HA1:=Lib.hid (HA0.out.but HD0.out (fun h=>h) (fun h=>h))
 have HE1:=Lib.hid (HE0.out.but HD0.out (fun h=>h))
 have HB1:=Lib.hid ((HB0.out.trans HD0.out (fun j hj h=>h)).mono (T:=fun k=>k=p∨k=g) (fun j hj h=>h.elim))
 clear HA0 HE0 HB0 HD0
 generalize W0.drewN n=W1 at HA1 HE1 HB1 ⊢
 have HA2:=HA1
 have HE2:=HE1
 have HB2:=HB1
 clear HA1 HE1 HB1
 have HGD:=Lib.hid (show Good (T.set m1 (some e)) (i+1) by rw [HM1.out];have:=HPT.out;rwa [put_wide HT.out] at this)
 have HP:=Lib.hid (show put T e=T.set m1 (some e) by rw [HM1.out];exact put_wide HT.out)
 have k1:W1.cell? ⟨p,1,none⟩=some (.int .i64 (c:Int)):=HA2.out.blk.cell 1
 have k2:W1.frozen? ⟨p,1,none⟩=false:=HA2.out.blk.frozen 1
 have HA9:=Lib.hid (HA2.out.count (c+1))
 have HB9:=Lib.hid (HB2.out.trans (S:=fun k=>k=p∨k=g) ((But.refl (fun k=>k=p) W1).setCell (p:=⟨p,1,none⟩) rfl (.int .i64 ((c+1:Nat):Int))) (fun j hj h => .inl h))
 have HE9:=Lib.hid (HE2.out.but ((But.refl (fun k=>k=p) W1).setCell (p:=⟨p,1,none⟩) rfl (.int .i64 ((c+1:Nat):Int))) (fun e=>HA2.out.blk.ne_ HE2.out (by decide) e.symm))
 go_wp2_with fail
 change Code.wp _ _ _ _ (W1.setCell ⟨p,1,none⟩ (.int .i64 ((c+1:Nat):Int)))
 clear k1 k2 HA2 HE2 HB2
 generalize W1.setCell ⟨p,1,none⟩ (.int .i64 ((c+1:Nat):Int))=W9 at HA9 HE9 HB9 ⊢
 have HD:=Lib.hid ((But.refl (fun _=>False) W9).drew)
 have HA8:=Lib.hid (HA9.out.but HD.out (fun h=>h) (fun h=>h))
 have HE8:=Lib.hid (HE9.out.but HD.out (fun h=>h))
 have HCP:=Lib.hid (show W9.drew.cell? ⟨p,0,none⟩=some (.slice (some ⟨g,0,none⟩) n1 n1) by have:=HA8.out.blk.cell 0;rw [← HN1.out] at this;exact this)
 have HR:=Lib.hid (box_entry1 HE8.out)
 have HST:=Lib.hid (KAt.put_ HA8.out (by rw [← HN1.out];exact hfl) (some e) HGD.out hi (fun f hf=>by injection hf with hf;subst hf;exact he))
 have HTH:=Lib.hid (row_there HA8.out.row (by rw [← HN1.out];exact hfl))
 have hmi:(m1:Int) < (n1:Int):=by omega
 refine Late.region_goes (fun V=>V=W9.drew) (fun i=>i == 8) (by kernel_rfl) ?_ (fun hH=>?_)
 ·rfl
 refine Late.Goes.takeT (i:=0) (v:=?_) (by simp only [List.getElem?_toArray,List.getElem?_cons_succ,List.getElem?_cons_zero];rfl) (by kernel_rfl) (by kernel_rfl) (by kernel_rfl) (by kernel_rfl) (by kernel_rfl) (by exact fun _ _ _ h=>h) (Or.inl ⟨by rfl,?_⟩) hH ?_
 rotate_left
 ·(intro wy hSw;(try dsimp only at hSw);subst hSw;have k0:=HCP.out;go_simp;try (with_reducible rfl))
 try simp only [Act.put,List.setIfInBounds_toArray,List.set_cons_zero,List.set_cons_succ]
 refine Late.Goes.takeT (i:=1) (v:=?_) (by simp only [List.getElem?_toArray,List.getElem?_cons_succ,List.getElem?_cons_zero];rfl) (by kernel_rfl) (by kernel_rfl) (by kernel_rfl) (by kernel_rfl) (by kernel_rfl) (by exact fun _ _ _ h=>h) (Or.inl ⟨by rfl,?_⟩) hH ?_
 rotate_left
 ·(intro wy hSw;(try dsimp only at hSw);subst hSw;have k0:=HCP.out;go_simp;try (with_reducible rfl))
 try simp only [Act.put,List.setIfInBounds_toArray,List.set_cons_zero,List.set_cons_succ]
 refine Late.Goes.takeT (i:=2) (v:=?_) (by simp only [List.getElem?_toArray,List.getElem?_cons_succ,List.getElem?_cons_zero];rfl) (by kernel_rfl) (by kernel_rfl) (by kernel_rfl) (by kernel_rfl) (by kernel_rfl) (by exact fun _ _ _ h=>h) (Or.inl ⟨by rfl,?_⟩) hH ?_
 rotate_left
 ·(intro wy hSw;(try dsimp only at hSw);subst hSw;have k0:=HCP.out;go_simp;try (with_reducible rfl))
 try simp only [Act.put,List.setIfInBounds_toArray,List.set_cons_zero,List.set_cons_succ]
 refine Late.Goes.takeT (i:=3) (v:=?_) (by simp only [List.getElem?_toArray,List.getElem?_cons_succ,List.getElem?_cons_zero];rfl) (by kernel_rfl) (by kernel_rfl) (by kernel_rfl) (by kernel_rfl) (by kernel_rfl) (by exact fun _ _ _ h=>h) (Or.inl ⟨by rfl,?_⟩) hH ?_
 rotate_left
 ·(intro wy hSw;(try dsimp only at hSw);subst hSw;have k0:=HCP.out;go_simp;try (with_reducible rfl))
 try simp only [Act.put,List.setIfInBounds_toArray,List.set_cons_zero,List.set_cons_succ]
 refine Late.Goes.takeT (i:=4) (v:=?_) (by simp only [List.getElem?_toArray,List.getElem?_cons_succ,List.getElem?_cons_zero];rfl) (by kernel_rfl) (by kernel_rfl) (by kernel_rfl) (by kernel_rfl) (by kernel_rfl) (by exact fun _ _ _ h=>h) (Or.inl ⟨by rfl,?_⟩) hH ?_
 rotate_left
 ·(intro wy hSw;(try dsimp only at hSw);subst hSw;have k0:=HCP.out;go_simp;try (with_reducible rfl))
 try simp only [Act.put,List.setIfInBounds_toArray,List.set_cons_zero,List.set_cons_succ]
 refine Late.Goes.takeT (i:=5) (v:=_) (by simp only [List.getElem?_toArray,List.getElem?_cons_succ,List.getElem?_cons_zero];rfl) (by kernel_rfl) (by kernel_rfl) (by kernel_rfl) (by kernel_rfl) (by kernel_rfl) (by exact fun _ _ _ h=>h) (yields_entry (by rfl) _ rfl b3 0 rfl e (fun V hV=>by rw [hV];exact HR.out)) hH ?_
 try simp only [Act.put,List.setIfInBounds_toArray,List.set_cons_zero,List.set_cons_succ]
 simp only [ev,ecells]
 refine Late.Goes.takeT (i:=6) (v:=?_) (by simp only [List.getElem?_toArray,List.getElem?_cons_succ,List.getElem?_cons_zero];rfl) (by kernel_rfl) (by kernel_rfl) (by kernel_rfl) (by kernel_rfl) (by kernel_rfl) (by exact fun _ _ _ h=>h) (Or.inl ⟨by rfl,?_⟩) hH ?_
 rotate_left
 ·(intro wy hSw;(try dsimp only at hSw);subst hSw;have k0:=HCP.out;go_simp;try (with_reducible rfl))
 try simp only [Act.put,List.setIfInBounds_toArray,List.set_cons_zero,List.set_cons_succ]
 refine Late.Goes.takeT (i:=7) (v:=?_) (by simp only [List.getElem?_toArray,List.getElem?_cons_succ,List.getElem?_cons_zero];rfl) (by kernel_rfl) (by kernel_rfl) (by kernel_rfl) (by kernel_rfl) (by kernel_rfl) (by exact fun _ _ _ h=>h) (Or.inl ⟨by rfl,?_⟩) hH ?_
 rotate_left
 ·(intro wy hSw;(try dsimp only at hSw);subst hSw;have k0:=HCP.out;go_simp;try (with_reducible rfl))
 try simp only [Act.put,List.setIfInBounds_toArray,List.set_cons_zero,List.set_cons_succ]
 refine Late.Goes.one (i:=8) (by kernel_rfl) (by simp only [List.getElem?_toArray,List.getElem?_cons_succ,List.getElem?_cons_zero];rfl) (fun K hK=>?_)
 clear hH
 refine wp_store_blk (by rfl) 118 _ _ rfl g (m1 * 8) (pcells (some e)) rfl rfl (by rw [pcells_length];exact HTH.out) (by rw [pcells_length];exact place_size) (pcells_one _) ?_
 refine hK.out _ _ ?_ (fun _=>?_)
 ·exact fun h=>by cases h
 clear hK K
 try simp only [Act.put,List.setIfInBounds_toArray,List.set_cons_zero,List.set_cons_succ]
 refine Late.Goes.done (by kernel_rfl) ?_ _
 go_wp2_with fail
 go_end0
 exact ⟨rfl,g,by rw [HCN.out,HP.out];exact HST.out,.inl rfl,(HB9.out.trans HD.out (fun j hj h=>h.elim)).trans (but_setCells g _ _ _) (fun j hj h => .inr h)⟩
theorem kput_tight (h:KAt w p g T i (cnt T)) (e:Ent) (he:e.key.size≤200) (hi:i+1≤400) (ha:ask T e.key=none) (ht:tight T) :
  Calls Tryz.prog 61 #[.pointer (some ⟨p,0,none⟩),ev e] w fun x w'=>x = .returned (.tuple #[])∧∃ g',KAt w' p g' (put T e) (i+1) (cnt (put T e))∧(g'=g∨w.heap.size≤g')∧But (fun k=>k=p∨k=g) w w':=by
 obtain ⟨l1,l2⟩:=h.lt
 have hfl:=find_lt (show 0 < T.length by omega) e.key
 have HCN:=Lib.hid (show cnt (put T e)=cnt T+1 by rw [cnt_put h.good,ha];rfl)
 have HE0:=Lib.hid (show Blk (w.alloc (.cells (ecells e).toArray 45)) w.heap.size 45 (ecells e).toArray from Blk.new _ _ _)
 have HB0:=Lib.hid ((But.refl (fun _=>False) w).alloc (.cells (ecells e).toArray 45))
 have HA0:=Lib.hid (h.but HB0.out (fun h=>h) (fun h=>h))
 have HF:=Lib.hid (kfind_any HA0.out e.key he)
 have HPT:=Lib.hid (h.good.put e)
 have c0:=HA0.out.blk.cell 0
 have hcells:=Blk.cells HA0.out.row hfl
 obtain ⟨a0,-,-,-,-,-,-,-⟩:=hcells
 have hl:look T (find T e.key)=none:=ha
 rw [hl] at a0
 have hc1:cnt T≤400:=by have:=h.good.few;omega
 have HWD:=Lib.hid h.good
 have HHA:=Lib.hid ha
 have HT:=Lib.hid ht
 obtain ⟨n1,hn1⟩:∃ n,n=T.length:=⟨_,rfl⟩
 obtain ⟨m1,hm1⟩:∃ m,m=find T e.key:=⟨_,rfl⟩
 rw [← hm1] at HF a0 hfl
 rw [← hn1] at c0 l1 l2 hfl
 have e0:(w.alloc (.cells (ecells e).toArray 45)).cell? ⟨g,m1 * 8,none⟩=some (.bool false):=a0
 have e1:(w.alloc (.cells (ecells e).toArray 45)).cell? ⟨p,0,none⟩=some (.slice (some ⟨g,0,none⟩) n1 n1):=c0
 have HTI:=Lib.hid (show Calls _ _ _ _ _ from ktight_any HA0.out)
 have hlen:=hn1
 rw [show decide (tight T)=true from by simp [HT.out]] at HTI
 have HN1:=Lib.hid hn1
 have HM1:=Lib.hid hm1
 clear a0 c0 hl h ha hm1 hn1 ht hlen
 obtain ⟨c,hc⟩:∃ c,c=cnt T:=⟨_,rfl⟩
 rw [← hc] at HCN hc1 HA0
 have HCT:=Lib.hid hc
 clear hc
 change Calls _ _ #[.pointer (some ⟨p,0,none⟩),.agg #[.string e.key,.int .i64 e.seg,.int .i64 e.at_,.int .i64 e.len,.int .u64 (e.ver:Int),.int .u64 (e.exp:Int),.int .i64 e.size]] w _
 go_enter Tryz.func61,Tryz.ntmps61
 go_wp2_with fail
 change Calls _ _ _ (w.alloc (.cells (ecells e).toArray 45)) _
 refine HF.out.mono ?_
 rintro x w' ⟨rfl,rfl⟩
 obtain ⟨b3,hb3⟩:∃ b,b=w.heap.size:=⟨_,rfl⟩
 rw [← hb3] at HE0 ⊢
 have HB3:=Lib.hid hb3
 clear hb3 HF
 generalize w.alloc (.cells (ecells e).toArray 45)=W0 at HE0 HB0 HA0 HTI e0 e1 ⊢
 go_wp2_with fail
 refine HTI.out.mono ?_
 rintro x w' ⟨rfl,n,rfl⟩
 clear HTI e0 e1
 have HD0:=Lib.hid ((But.refl (fun _=>False) W0).drewN n)
 have HA1:=Lib.hid (HA0.out.but HD0.out (fun h=>h) (fun h=>h))
 have HE1:=Lib.hid (HE0.out.but HD0.out (fun h=>h))
 have HB1:=Lib.hid ((HB0.out.trans HD0.out (fun j hj h=>h)).mono (T:=fun k=>k=p∨k=g) (fun j hj h=>h.elim))
 clear HA0 HE0 HB0 HD0
 generalize W0.drewN n=W1 at HA1 HE1 HB1 ⊢
 have HGR:=Lib.hid (kgrow_any HA1.out HT.out)
 go_wp2_with fail
 refine HGR.out.mono ?_
 rintro x W2 ⟨rfl,g1,kA,kg,kB⟩
 have HA2:=Lib.hid kA
 have HB2:=Lib.hid (HB1.out.trans (S:=fun k=>k=p∨k=g) kB (fun j hj h => .inl h))
 have HE2:=Lib.hid (HE1.out.but kB (fun e=>HA1.out.blk.ne_ HE1.out (by decide) e.symm))
 have HG1:=Lib.hid (show w.heap.size≤g1 by have:=HB1.out.size;omega)
 clear kA kB kg HGR HA1 HB1 HE1 hfl HN1 HM1 l1 l2
 obtain ⟨T1,hT1⟩:∃ T1,T1=again T (2 * T.length):=⟨_,rfl⟩
 have HP0:=Lib.hid (show put T e=T1.set (find T1 e.key) (some e) by rw [hT1];exact put_tight HHA.out HT.out)
 rw [← hT1] at HA2
 clear hT1
 obtain ⟨l1,l2⟩:=HA2.out.lt
 have hfl:=find_lt (show 0 < T1.length by omega) e.key
 have HF:=Lib.hid (kfind_any HA2.out e.key he)
 obtain ⟨n2,hn2⟩:∃ n,n=T1.length:=⟨_,rfl⟩
 obtain ⟨m2,hm2⟩:∃ m,m=find T1 e.key:=⟨_,rfl⟩
 rw [← hm2] at HF hfl HP0
 rw [← hn2] at l1 l2 hfl
 have HP:=HP0
 have HGD:=Lib.hid (show Good (T1.set m2 (some e)) (i+1) by rw [← HP.out];exact HPT.out)
 have HN1:=Lib.hid hn2
 clear hn2 hm2 HP0
 have kk:W2.cell? ⟨b3,0,none⟩=some (.string e.key):=HE2.out.cell 0
 go_wp2_with fail
 refine HF.out.mono ?_
 rintro x w' ⟨rfl,rfl⟩
 clear HF kk
 have k1:W2.cell? ⟨p,1,none⟩=some (.int .i64 (c:Int)):=HA2.out.blk.cell 1
 have k2:W2.frozen? ⟨p,1,none⟩=false:=HA2.out.blk.frozen 1
 have HA9:=Lib.hid (HA2.out.count (c+1))
 have HB9:=Lib.hid (HB2.out.trans (S:=fun k=>k=p∨k=g) ((But.refl (fun k=>k=p) W2).setCell (p:=⟨p,1,none⟩) rfl (.int .i64 ((c+1:Nat):Int))) (fun j hj h => .inl h))
 have HE9:=Lib.hid (HE2.out.but ((But.refl (fun k=>k=p) W2).setCell (p:=⟨p,1,none⟩) rfl (.int .i64 ((c+1:Nat):Int))) (fun e=>HA2.out.blk.ne_ HE2.out (by decide) e.symm))
 go_wp2_with fail
 change Code.wp _ _ _ _ (W2.setCell ⟨p,1,none⟩ (.int .i64 ((c+1:Nat):Int)))
 clear k1 k2 HA2 HE2 HB2
 generalize W2.setCell ⟨p,1,none⟩ (.int .i64 ((c+1:Nat):Int))=W9 at HA9 HE9 HB9 ⊢
 have HD:=Lib.hid ((But.refl (fun _=>False) W9).drew)
 have HA8:=Lib.hid (HA9.out.but HD.out (fun h=>h) (fun h=>h))
 have HE8:=Lib.hid (HE9.out.but HD.out (fun h=>h))
 have HCP:=Lib.hid (show W9.drew.cell? ⟨p,0,none⟩=some (.slice (some ⟨g1,0,none⟩) n2 n2) by have:=HA8.out.blk.cell 0;rw [← HN1.out] at this;exact this)
 have HR:=Lib.hid (box_entry1 HE8.out)
 have HST:=Lib.hid (KAt.put_ HA8.out (by rw [← HN1.out];exact hfl) (some e) HGD.out hi (fun f hf=>by injection hf with hf;subst hf;exact he))
 have HTH:=Lib.hid (row_there HA8.out.row (by rw [← HN1.out];exact hfl))
 have hmi:(m2:Int) < (n2:Int):=by omega
 refine Late.region_goes (fun V=>V=W9.drew) (fun i=>i == 8) (by kernel_rfl) ?_ (fun hH=>?_)
 ·rfl
 refine Late.Goes.takeT (i:=0) (v:=?_) (by simp only [List.getElem?_toArray,List.getElem?_cons_succ,List.getElem?_cons_zero];rfl) (by kernel_rfl) (by kernel_rfl) (by kernel_rfl) (by kernel_rfl) (by kernel_rfl) (by exact fun _ _ _ h=>h) (Or.inl ⟨by rfl,?_⟩) hH ?_
 rotate_left
 ·(intro wy hSw;(try dsimp only at hSw);subst hSw;have k0:=HCP.out;go_simp;try (with_reducible rfl))
 try simp only [Act.put,List.setIfInBounds_toArray,List.set_cons_zero,List.set_cons_succ]
 refine Late.Goes.takeT (i:=1) (v:=?_) (by simp only [List.getElem?_toArray,List.getElem?_cons_succ,List.getElem?_cons_zero];rfl) (by kernel_rfl) (by kernel_rfl) (by kernel_rfl) (by kernel_rfl) (by kernel_rfl) (by exact fun _ _ _ h=>h) (Or.inl ⟨by rfl,?_⟩) hH ?_
 rotate_left
 ·(intro wy hSw;(try dsimp only at hSw);subst hSw;have k0:=HCP.out;go_simp;try (with_reducible rfl))
 try simp only [Act.put,List.setIfInBounds_toArray,List.set_cons_zero,List.set_cons_succ]
 refine Late.Goes.takeT (i:=2) (v:=?_) (by simp only [List.getElem?_toArray,List.getElem?_cons_succ,List.getElem?_cons_zero];rfl) (by kernel_rfl) (by kernel_rfl) (by kernel_rfl) (by kernel_rfl) (by kernel_rfl) (by exact fun _ _ _ h=>h) (Or.inl ⟨by rfl,?_⟩) hH ?_
 rotate_left
 ·(intro wy hSw;(try dsimp only at hSw);subst hSw;have k0:=HCP.out;go_simp;try (with_reducible rfl))
 try simp only [Act.put,List.setIfInBounds_toArray,List.set_cons_zero,List.set_cons_succ]
 refine Late.Goes.takeT (i:=3) (v:=?_) (by simp only [List.getElem?_toArray,List.getElem?_cons_succ,List.getElem?_cons_zero];rfl) (by kernel_rfl) (by kernel_rfl) (by kernel_rfl) (by kernel_rfl) (by kernel_rfl) (by exact fun _ _ _ h=>h) (Or.inl ⟨by rfl,?_⟩) hH ?_
 rotate_left
 ·(intro wy hSw;(try dsimp only at hSw);subst hSw;have k0:=HCP.out;go_simp;try (with_reducible rfl))
 try simp only [Act.put,List.setIfInBounds_toArray,List.set_cons_zero,List.set_cons_succ]
 refine Late.Goes.takeT (i:=4) (v:=?_) (by simp only [List.getElem?_toArray,List.getElem?_cons_succ,List.getElem?_cons_zero];rfl) (by kernel_rfl) (by kernel_rfl) (by kernel_rfl) (by kernel_rfl) (by kernel_rfl) (by exact fun _ _ _ h=>h) (Or.inl ⟨by rfl,?_⟩) hH ?_
 rotate_left
 ·(intro wy hSw;(try dsimp only at hSw);subst hSw;have k0:=HCP.out;go_simp;try (with_reducible rfl))
 try simp only [Act.put,List.setIfInBounds_toArray,List.set_cons_zero,List.set_cons_succ]
 refine Late.Goes.takeT (i:=5) (v:=_) (by simp only [List.getElem?_toArray,List.getElem?_cons_succ,List.getElem?_cons_zero];rfl) (by kernel_rfl) (by kernel_rfl) (by kernel_rfl) (by kernel_rfl) (by kernel_rfl) (by exact fun _ _ _ h=>h) (yields_entry (by rfl) _ rfl b3 0 rfl e (fun V hV=>by rw [hV];exact HR.out)) hH ?_
 try simp only [Act.put,List.setIfInBounds_toArray,List.set_cons_zero,List.set_cons_succ]
 simp only [ev,ecells]
 refine Late.Goes.takeT (i:=6) (v:=?_) (by simp only [List.getElem?_toArray,List.getElem?_cons_succ,List.getElem?_cons_zero];rfl) (by kernel_rfl) (by kernel_rfl) (by kernel_rfl) (by kernel_rfl) (by kernel_rfl) (by exact fun _ _ _ h=>h) (Or.inl ⟨by rfl,?_⟩) hH ?_
 rotate_left
 ·(intro wy hSw;(try dsimp only at hSw);subst hSw;have k0:=HCP.out;go_simp;try (with_reducible rfl))
 try simp only [Act.put,List.setIfInBounds_toArray,List.set_cons_zero,List.set_cons_succ]
 refine Late.Goes.takeT (i:=7) (v:=?_) (by simp only [List.getElem?_toArray,List.getElem?_cons_succ,List.getElem?_cons_zero];rfl) (by kernel_rfl) (by kernel_rfl) (by kernel_rfl) (by kernel_rfl) (by kernel_rfl) (by exact fun _ _ _ h=>h) (Or.inl ⟨by rfl,?_⟩) hH ?_
 rotate_left
 ·(intro wy hSw;(try dsimp only at hSw);subst hSw;have k0:=HCP.out;go_simp;try (with_reducible rfl))
 try simp only [Act.put,List.setIfInBounds_toArray,List.set_cons_zero,List.set_cons_succ]
 refine Late.Goes.one (i:=8) (by kernel_rfl) (by simp only [List.getElem?_toArray,List.getElem?_cons_succ,List.getElem?_cons_zero];rfl) (fun K hK=>?_)
 clear hH
 refine wp_store_blk (by rfl) 118 _ _ rfl g1 (m2 * 8) (pcells (some e)) rfl rfl (by rw [pcells_length];exact HTH.out) (by rw [pcells_length];exact place_size) (pcells_one _) ?_
 refine hK.out _ _ ?_ (fun _=>?_)
 ·exact fun h=>by cases h
 clear hK K
 try simp only [Act.put,List.setIfInBounds_toArray,List.set_cons_zero,List.set_cons_succ]
 refine Late.Goes.done (by kernel_rfl) ?_ _
 go_wp2_with fail
 go_end0
 exact ⟨rfl,g1,by rw [HCN.out,HP.out];exact HST.out,.inr HG1.out,(HB9.out.trans HD.out (fun j hj h=>h.elim)).trans (But.mono (but_setCells g1 _ _ _) (T:=fun k=>k=g1) (fun j hj h=>h)) (fun j hj h=>by have:=HG1.out;omega)⟩
theorem kput_any (h:KAt w p g T i (cnt T)) (e:Ent) (he:e.key.size≤200) (hi:i+1≤400) :
  Calls Tryz.prog 61 #[.pointer (some ⟨p,0,none⟩),ev e] w fun x w'=>x = .returned (.tuple #[])∧∃ g',KAt w' p g' (put T e) (i+1) (cnt (put T e))∧(g'=g∨w.heap.size≤g')∧But (fun k=>k=p∨k=g) w w':=by
 cases ha:ask T e.key with
 | some f=>exact (kput_there h e f he hi ha).mono (fun x w' ⟨a,b,c⟩=>⟨a,g,b,.inl rfl,c⟩)
 | none =>
  by_cases ht:tight T
  ·exact kput_tight h e he hi ha ht
  ·exact kput_wide h e he hi ha ht
end
end Go.Proofs.YtgjofinbdigmcaaGreat.Key

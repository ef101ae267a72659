/- Contract of the bucket's Apply. -/
import Derived.Test.YtgjofinbdigmcaaGreatG22
set_option linter.unusedSimpArgs false
set_option linter.unusedVariables false
set_option maxHeartbeats 4000000
set_option maxRecDepth 100000
namespace Go.Proofs.YtgjofinbdigmcaaGreat.Buk
open Go.Proofs.YtgjofinbdigmcaaGreat.Mem
open Go.ChangeShapes Go.WideShapes Go.ChangeAt Go.RowKit
def rcs (r:Rcd):List Value:=[.int .i64 r.kind,.int .i64 r.bucket,.int .u32 (r.gen:Int),.int .i64 r.keys,.int .i64 r.bytes,.int .i64 r.budget,.int .u64 (r.seq:Int),.int .u32 (r.serial:Int),.int .i64 r.rights,.int .u64 (r.secret:Int),.string r.key,.string r.val,.int .u64 (r.version:Int),.int .u64 (r.expiry:Int)]
theorem yields_rec {ops:Array Oper} {S:World→Prop} {op:Oper} {a:Act} (hw:Region.wanted op (yielded ops a.tmps)=true) (x:Operand) (ho:op.op = .load 35 x) (b o:Nat) (hx:a.eval x = .pointer (some ⟨b,o,none⟩)) (r:Rcd) (hS:∀ w,S w→w.rangeAt b o (rcs r)):YieldsIf Tryz.prog ops S op (Rec.rv r) a :=
 yieldsIf_load_mid hw _ x ho b o hx (rcs r) _ hS Tryz.underlying35 rfl Rec.rec_size
theorem quota_size:(Tryz.prog.info? 24).map (·.size)=some 3:=by kernel_rfl
theorem yields_quota {ops:Array Oper} {S:World→Prop} {op:Oper} {a:Act} (hw:Region.wanted op (yielded ops a.tmps)=true) (x:Operand) (ho:op.op = .load 24 x) (b o:Nat) (hx:a.eval x = .pointer (some ⟨b,o,none⟩)) (u v z:Int) (hS:∀ w,S w→w.rangeAt b o [.int .i64 u,.int .i64 v,.int .i64 z]):YieldsIf Tryz.prog ops S op (.agg #[.int .i64 u,.int .i64 v,.int .i64 z]) a :=
 yieldsIf_load_mid hw _ x ho b o hx [.int .i64 u,.int .i64 v,.int .i64 z] _ hS Tryz.underlying24 rfl quota_size
theorem range_three {w:World} {g:Nat} {t:TypeId} {r:Rcd} (h:Blk w g t (Rec.cells r)):w.rangeAt g 3 [.int .i64 r.keys,.int .i64 r.bytes,.int .i64 r.budget]:=by
 intro j v hv
 have hj:j < 3:=(List.getElem?_eq_some_iff.1 hv).1
 rw [h.cell]
 rcases j with _|_|_|j
 ·exact hv
 ·exact hv
 ·exact hv
 ·omega
theorem cost_le {r:Rcd} (h:Rec.May r):14≤Rec.costOf r∧Rec.costOf r≤1098:=by
 have:=Rec.bytesOf_len h
 unfold Rec.costOf
 rw [if_pos h]
 omega
section
variable {w w':World} {s:Bl} {B:Bk} {T:Tab} {m:List It} {i:Nat}
theorem BM.no (h:BM w s B T m i) {g:Nat} {t:TypeId} {cs:Array Value} (hb:Blk w g t cs) (ht:∀ u ∈ [60,94,118,97,68,100],t≠u):¬ Foot s g:=by
 obtain ⟨l,hA,_⟩:=h.heap
 rintro (e|e|e|e|e|e|e)
 ·exact hb.ne_ h.blk (ht _ (by simp)) e
 ·exact hb.ne_ h.key.blk (ht _ (by simp)) e
 ·exact hb.ne_ h.key.row (ht _ (by simp)) e
 ·exact hb.ne_ hA.blk (ht _ (by simp)) e
 ·exact own_blk_ne hA.own hb (fun e=>ht _ (by simp) e.symm) e
 ·exact hb.ne_ h.tok.blk (ht _ (by simp)) e
 ·exact h.tok.ne hb e.symm
theorem BM.more (h:BM w s B T m i) (hi:i+1≤400):BM w s B T m (i+1):=⟨h.blk,⟨h.key.blk,h.key.row,h.key.good.more,h.key.small,hi⟩,h.heap,h.tok⟩
theorem Ok.more (o:Ok B T m i):Ok B T m (i+1):=⟨o.bytes,o.cov,by have:=o.few;omega,o.okm,o.okt,o.id,o.gen,o.seq,o.serial,o.charged.1,by have:=o.charged.2;omega⟩
theorem Ok.with (o:Ok B T m i) (sq sl:Nat) (c:Int) (ts:List Rgt.Tok) (h1:sq < 18446744073709551616) (h2:sl < 4294967296) (h3:0≤c∧c≤2000 * (i:Int)) (q1 q2 q3:Int):Ok { B with seq:=sq,serial:=sl,charged:=c,toks:=ts,q1:=q1,q2:=q2,q3:=q3 } T m i:=⟨o.bytes,o.cov,o.few,o.okm,o.okt,o.id,o.gen,h1,h2,h3⟩
theorem BM.step_quota (h:BM w s B T m i) (a b c:Int):BM (w.setCells s.p 2 [.int .i64 a,.int .i64 b,.int .i64 c]) s { B with q1:=a,q2:=b,q3:=c } T m i∧Step w s s (w.setCells s.p 2 [.int .i64 a,.int .i64 b,.int .i64 c]):=by
 have h1:=h.step_cell 2 (.int .i64 a) (B':={ B with q1:=a }) rfl rfl
 have h2:=h1.1.step_cell 3 (.int .i64 b) (B':={ B with q1:=a,q2:=b }) rfl rfl
 have h3:=h2.1.step_cell 4 (.int .i64 c) (B':={ B with q1:=a,q2:=b,q3:=c }) rfl rfl
 exact ⟨h3.1,h1.2.trans (h2.2.trans h3.2)⟩
abbrev spV (p:Spt):Value := .agg #[.int .i64 p.1,.int .i64 p.2.1,.int .i64 p.2.2]
abbrev spB (p:Spt):Array Value := #[.int .i64 p.1,.int .i64 p.2.1,.int .i64 p.2.2]
structure SpOk (p:Spt):Prop where
 a : -9223372036854775808≤p.1∧p.1≤9223372036854775807
 b : -9223372036854775808≤p.2.1∧p.2.1≤9223372036854775807
 c : -9223372036854775808≤p.2.2∧p.2.2≤9223372036854775807
theorem made_no (h:BM w s B T m i) (o:Ok B T m i) (hi:i+1≤400) {w':World} (hb:But (fun _=>False) w w') {r:Rcd} {p:Spt} (ht:told B r=false):Made w s (app B T r p) (appT B T r p) (i+1) w':=by
 unfold app appT
 rw [ht]
 exact ⟨s,m,(h.new hb).more hi,o.more,Step.of_new hb⟩
theorem apply_may (h:BM w s B T m i) (o:Ok B T m i) (hi:i+1≤400) (r:Rcd) (hr:Rec.Is r) (p:Spt) (hp:SpOk p) (hm:¬ Rec.May r) :
  Calls Tryz.prog 9 #[.pointer (some ⟨s.p,0,none⟩),Rec.rv r,spV p] w fun e w'=>e = .returned (.bool false)∧Made w s (app B T r p) (appT B T r p) (i+1) w':=by
 have HT:=Lib.hid (show told B r=false from by unfold told;rw [decide_eq_false (fun h:Own B r=>hm h.1)];rfl)
 have HX:=Lib.hid (Blk.two w (Rec.cells r) (spB p) 35 37)
 have HB0:=Lib.hid (((But.refl (fun _=>False) w).alloc (.cells (Rec.cells r) 35)).alloc (.cells (spB p) 37))
 have HH:=Lib.hid h
 have HO:=Lib.hid o
 have HIS:=Lib.hid hr
 have HLT:=Lib.hid h.lt
 have HSP:=Lib.hid hp
 clear h o hr hp
 change Calls _ _ #[.pointer (some ⟨s.p,0,none⟩),.agg #[.int .i64 r.kind,.int .i64 r.bucket,.int .u32 (r.gen:Int),.int .i64 r.keys,.int .i64 r.bytes,.int .i64 r.budget,.int .u64 (r.seq:Int),.int .u32 (r.serial:Int),.int .i64 r.rights,.int .u64 (r.secret:Int),.string r.key,.string r.val,.int .u64 (r.version:Int),.int .u64 (r.expiry:Int)],.agg #[.int .i64 p.1,.int .i64 p.2.1,.int .i64 p.2.2]] w _
 go_enter Tryz.func9,Tryz.ntmps9
 go_wp2_with fail
 obtain ⟨b4,hb4⟩:∃ b,b=w.heap.size:=⟨_,rfl⟩
 change Code.wp _ _ _ _ ((w.alloc (.cells (Rec.cells r) 35)).alloc (.cells (spB p) 37))
 rw [← hb4] at HX
 rw [← hb4]
 generalize (w.alloc (.cells (Rec.cells r) 35)).alloc (.cells (spB p) 37)=W at HX HB0 ⊢
 have HBL:=Lib.hid (show w.heap.size≤b4 from by omega)
 clear hb4
 have HBM:=Lib.hid (fun V (hV:But (fun _=>False) W V)=>HH.out.new (HB0.out.trans hV (fun _ _ h=>h)))
 have HXR:=Lib.hid (fun V (hV:But (fun _=>False) W V)=>show V.rangeAt b4 0 (rcs r) from blk_range0 (A:=[]) (B:=rcs r) (HX.out.1.but hV (fun h=>h)))
 have HC:=Lib.hid (fun V (hV:But (fun _=>False) W V)=>(And.intro (show V.cell? ⟨s.p,0,none⟩=some (.int .i64 B.id) from (HBM.out V hV).cell 0) (And.intro (show V.cell? ⟨s.p,1,none⟩=some (.int .u32 (B.gen:Int)) from (HBM.out V hV).cell 1) (And.intro (show V.cell? ⟨b4,1,none⟩=some (.int .i64 r.bucket) from (HX.out.1.but hV (fun h=>h)).cell 1) (show V.cell? ⟨b4,2,none⟩=some (.int .u32 (r.gen:Int)) from (HX.out.1.but hV (fun h=>h)).cell 2)))))
 refine Late.region_goes (fun V=>But (fun _=>False) W V) (fun _=>false) (by kernel_rfl) ?_ (fun hH=>?_)
 ·exact (But.refl _ W).drew
 refine Late.Goes.takeT (i:=0) (v:=_) (by simp only [List.getElem?_toArray,List.getElem?_cons_succ,List.getElem?_cons_zero];rfl) (by kernel_rfl) (by kernel_rfl) (by kernel_rfl) (by kernel_rfl) (by kernel_rfl) (by exact fun _ _ _ h=>h) (yields_rec (by rfl) _ rfl b4 0 rfl r (fun V hV=>HXR.out V hV)) hH ?_
 try simp only [Act.put,List.setIfInBounds_toArray,List.set_cons_zero,List.set_cons_succ]
 have HV:=Lib.hid hH
 refine Late.Goes.one (i:=1) (by kernel_rfl) (by simp only [List.getElem?_toArray,List.getElem?_cons_succ,List.getElem?_cons_zero];rfl) (fun K hK=>?_)
 clear hH
 go_simp
 go_at_call 28
 refine (Rec.may_any r _).mono ?_
 rintro e w1 ⟨rfl,hbe⟩
 have HV1:=Lib.hid (HV.out.trans (But.of_new hbe:But (fun _=>False) _ _) (fun _ _ h=>h))
 clear hbe
 rw [decide_eq_false hm]
 simp only [Bool.not_true,Bool.not_false]
 refine hK.out _ _ ?_ (fun hH=>?_)
 ·exact fun _=>HV1.out
 clear hK K
 have hH:=hH rfl
 try simp only [Act.put,List.setIfInBounds_toArray,List.set_cons_zero,List.set_cons_succ]
 refine Late.tk 2 ?_ ?_ hH ?_ (hw:=by kernel_rfl);rotate_left;focus (intro wy hSw;(try dsimp only at hSw);have kk:=HC.out wy hSw;have k0:=kk.1;have k1:=kk.2.1;have k2:=kk.2.2.1;have k3:=kk.2.2.2;clear kk;go_simp;try (with_reducible rfl))
 refine Late.tk 3 ?_ ?_ hH ?_ (hw:=by kernel_rfl);rotate_left;focus (intro wy hSw;(try dsimp only at hSw);have kk:=HC.out wy hSw;have k0:=kk.1;have k1:=kk.2.1;have k2:=kk.2.2.1;have k3:=kk.2.2.2;clear kk;go_simp;try (with_reducible rfl))
 try simp only [Act.put,List.setIfInBounds_toArray,List.set_cons_zero,List.set_cons_succ]
 refine Late.tn 4 hH ?_
 try simp only [Act.put,List.setIfInBounds_toArray,List.set_cons_zero,List.set_cons_succ]
 refine Late.tn 5 hH ?_
 try simp only [Act.put,List.setIfInBounds_toArray,List.set_cons_zero,List.set_cons_succ]
 refine Late.tn 6 hH ?_
 try simp only [Act.put,List.setIfInBounds_toArray,List.set_cons_zero,List.set_cons_succ]
 refine Late.tn 7 hH ?_
 try simp only [Act.put,List.setIfInBounds_toArray,List.set_cons_zero,List.set_cons_succ]
 refine Late.tn 8 hH ?_
 try simp only [Act.put,List.setIfInBounds_toArray,List.set_cons_zero,List.set_cons_succ]
 refine Late.tn 9 hH ?_
 try simp only [Act.put,List.setIfInBounds_toArray,List.set_cons_zero,List.set_cons_succ]
 refine Late.tn 10 hH ?_
 try simp only [Act.put,List.setIfInBounds_toArray,List.set_cons_zero,List.set_cons_succ]
 refine Late.tk 11 ?_ ?_ hH ?_ (hw:=by kernel_rfl);rotate_left;focus (intro wy hSw;(try dsimp only at hSw);have kk:=HC.out wy hSw;have k0:=kk.1;have k1:=kk.2.1;have k2:=kk.2.2.1;have k3:=kk.2.2.2;clear kk;go_simp;try (with_reducible rfl))
 refine Late.tk 12 ?_ ?_ hH ?_ (hw:=by kernel_rfl);rotate_left;focus (intro wy hSw;(try dsimp only at hSw);have kk:=HC.out wy hSw;have k0:=kk.1;have k1:=kk.2.1;have k2:=kk.2.2.1;have k3:=kk.2.2.2;clear kk;go_simp;try (with_reducible rfl))
 try simp only [Act.put,List.setIfInBounds_toArray,List.set_cons_zero,List.set_cons_succ]
 refine Late.tn 13 hH ?_
 try simp only [Act.put,List.setIfInBounds_toArray,List.set_cons_zero,List.set_cons_succ]
 refine Late.tn 14 hH ?_
 try simp only [Act.put,List.setIfInBounds_toArray,List.set_cons_zero,List.set_cons_succ]
 refine Late.tn 15 hH ?_
 try simp only [Act.put,List.setIfInBounds_toArray,List.set_cons_zero,List.set_cons_succ]
 refine Late.tn 16 hH ?_
 try simp only [Act.put,List.setIfInBounds_toArray,List.set_cons_zero,List.set_cons_succ]
 refine Late.tn 17 hH ?_
 try simp only [Act.put,List.setIfInBounds_toArray,List.set_cons_zero,List.set_cons_succ]
 refine Late.tn 18 hH ?_
 try simp only [Act.put,List.setIfInBounds_toArray,List.set_cons_zero,List.set_cons_succ]
 refine Late.tn 19 hH ?_
 try simp only [Act.put,List.setIfInBounds_toArray,List.set_cons_zero,List.set_cons_succ]
 refine Late.tk 20 ?_ ?_ hH ?_ (hw:=by kernel_rfl);rotate_left;focus (intro wy hSw;(try dsimp only at hSw);have kk:=HC.out wy hSw;have k0:=kk.1;have k1:=kk.2.1;have k2:=kk.2.2.1;have k3:=kk.2.2.2;clear kk;go_simp;try (with_reducible rfl))
 try simp only [Act.put,List.setIfInBounds_toArray,List.set_cons_zero,List.set_cons_succ]
 refine Late.Goes.done (by kernel_rfl) ?_ _
 go_wp2_with fail
 go_ret
 exact ⟨rfl,made_no HH.out HO.out hi (HB0.out.trans HV1.out (fun _ _ h=>h)) HT.out⟩
theorem apply_id (h:BM w s B T m i) (o:Ok B T m i) (hi:i+1≤400) (r:Rcd) (hr:Rec.Is r) (p:Spt) (hp:SpOk p) (hm:Rec.May r) (hid:r.bucket≠B.id) :
  Calls Tryz.prog 9 #[.pointer (some ⟨s.p,0,none⟩),Rec.rv r,spV p] w fun e w'=>e = .returned (.bool false)∧Made w s (app B T r p) (appT B T r p) (i+1) w':=by
 have HT:=Lib.hid (show told B r=false from by unfold told;rw [decide_eq_false (fun h:Own B r=>hid h.2.1)];rfl)
 have n1:(r.bucket != B.id)=true:=by simpa using hid
 have HX:=Lib.hid (Blk.two w (Rec.cells r) (spB p) 35 37)
 have HB0:=Lib.hid (((But.refl (fun _=>False) w).alloc (.cells (Rec.cells r) 35)).alloc (.cells (spB p) 37))
 have HH:=Lib.hid h
 have HO:=Lib.hid o
 have HIS:=Lib.hid hr
 have HLT:=Lib.hid h.lt
 have HSP:=Lib.hid hp
 clear h o hr hp
 change Calls _ _ #[.pointer (some ⟨s.p,0,none⟩),.agg #[.int .i64 r.kind,.int .i64 r.bucket,.int .u32 (r.gen:Int),.int .i64 r.keys,.int .i64 r.bytes,.int .i64 r.budget,.int .u64 (r.seq:Int),.int .u32 (r.serial:Int),.int .i64 r.rights,.int .u64 (r.secret:Int),.string r.key,.string r.val,.int .u64 (r.version:Int),.int .u64 (r.expiry:Int)],.agg #[.int .i64 p.1,.int .i64 p.2.1,.int .i64 p.2.2]] w _
 go_enter Tryz.func9,Tryz.ntmps9
 go_wp2_with fail
 obtain ⟨b4,hb4⟩:∃ b,b=w.heap.size:=⟨_,rfl⟩
 change Code.wp _ _ _ _ ((w.alloc (.cells (Rec.cells r) 35)).alloc (.cells (spB p) 37))
 rw [← hb4] at HX
 rw [← hb4]
 generalize (w.alloc (.cells (Rec.cells r) 35)).alloc (.cells (spB p) 37)=W at HX HB0 ⊢
 have HBL:=Lib.hid (show w.heap.size≤b4 from by omega)
 clear hb4
 have HBM:=Lib.hid (fun V (hV:But (fun _=>False) W V)=>HH.out.new (HB0.out.trans hV (fun _ _ h=>h)))
 have HXR:=Lib.hid (fun V (hV:But (fun _=>False) W V)=>show V.rangeAt b4 0 (rcs r) from blk_range0 (A:=[]) (B:=rcs r) (HX.out.1.but hV (fun h=>h)))
 have HC:=Lib.hid (fun V (hV:But (fun _=>False) W V)=>(And.intro (show V.cell? ⟨s.p,0,none⟩=some (.int .i64 B.id) from (HBM.out V hV).cell 0) (And.intro (show V.cell? ⟨s.p,1,none⟩=some (.int .u32 (B.gen:Int)) from (HBM.out V hV).cell 1) (And.intro (show V.cell? ⟨b4,1,none⟩=some (.int .i64 r.bucket) from (HX.out.1.but hV (fun h=>h)).cell 1) (show V.cell? ⟨b4,2,none⟩=some (.int .u32 (r.gen:Int)) from (HX.out.1.but hV (fun h=>h)).cell 2)))))
 refine Late.region_goes (fun V=>But (fun _=>False) W V) (fun _=>false) (by kernel_rfl) ?_ (fun hH=>?_)
 ·exact (But.refl _ W).drew
 refine Late.Goes.takeT (i:=0) (v:=_) (by simp only [List.getElem?_toArray,List.getElem?_cons_succ,List.getElem?_cons_zero];rfl) (by kernel_rfl) (by kernel_rfl) (by kernel_rfl) (by kernel_rfl) (by kernel_rfl) (by exact fun _ _ _ h=>h) (yields_rec (by rfl) _ rfl b4 0 rfl r (fun V hV=>HXR.out V hV)) hH ?_
 try simp only [Act.put,List.setIfInBounds_toArray,List.set_cons_zero,List.set_cons_succ]
 have HV:=Lib.hid hH
 refine Late.Goes.one (i:=1) (by kernel_rfl) (by simp only [List.getElem?_toArray,List.getElem?_cons_succ,List.getElem?_cons_zero];rfl) (fun K hK=>?_)
 clear hH
 go_simp
 go_at_call 28
 refine (Rec.may_any r _).mono ?_
 rintro e w1 ⟨rfl,hbe⟩
 have HV1:=Lib.hid (HV.out.trans (But.of_new hbe:But (fun _=>False) _ _) (fun _ _ h=>h))
 clear hbe
 rw [decide_eq_true hm]
 simp only [Bool.not_true,Bool.not_false]
 refine hK.out _ _ ?_ (fun hH=>?_)
 ·exact fun _=>HV1.out
 clear hK K
 have hH:=hH rfl
 try simp only [Act.put,List.setIfInBounds_toArray,List.set_cons_zero,List.set_cons_succ]
 refine Late.tk 2 ?_ ?_ hH ?_ (hw:=by kernel_rfl);rotate_left;focus (intro wy hSw;(try dsimp only at hSw);have kk:=HC.out wy hSw;have k0:=kk.1;have k1:=kk.2.1;have k2:=kk.2.2.1;have k3:=kk.2.2.2;clear kk;go_simp;try (with_reducible rfl))
 refine Late.tk 3 ?_ ?_ hH ?_ (hw:=by kernel_rfl);rotate_left;focus (intro wy hSw;(try dsimp only at hSw);have kk:=HC.out wy hSw;have k0:=kk.1;have k1:=kk.2.1;have k2:=kk.2.2.1;have k3:=kk.2.2.2;clear kk;go_simp;try (with_reducible rfl))
 refine Late.tk 4 ?_ ?_ hH ?_ (hw:=by kernel_rfl);rotate_left;focus (intro wy hSw;(try dsimp only at hSw);have kk:=HC.out wy hSw;have k0:=kk.1;have k1:=kk.2.1;have k2:=kk.2.2.1;have k3:=kk.2.2.2;clear kk;go_simp;try (with_reducible rfl))
 refine Late.tk 5 ?_ ?_ hH ?_ (hw:=by kernel_rfl);rotate_left;focus (intro wy hSw;(try dsimp only at hSw);have kk:=HC.out wy hSw;have k0:=kk.1;have k1:=kk.2.1;have k2:=kk.2.2.1;have k3:=kk.2.2.2;clear kk;go_simp;try (with_reducible rfl))
 refine Late.tk 6 ?_ ?_ hH ?_ (hw:=by kernel_rfl);rotate_left;focus (intro wy hSw;(try dsimp only at hSw);have kk:=HC.out wy hSw;have k0:=kk.1;have k1:=kk.2.1;have k2:=kk.2.2.1;have k3:=kk.2.2.2;clear kk;go_simp;try (with_reducible rfl))
 refine Late.tk 7 ?_ ?_ hH ?_ (hw:=by kernel_rfl);rotate_left;focus (intro wy hSw;(try dsimp only at hSw);have kk:=HC.out wy hSw;have k0:=kk.1;have k1:=kk.2.1;have k2:=kk.2.2.1;have k3:=kk.2.2.2;clear kk;go_simp;try (with_reducible rfl))
 refine Late.tk 8 ?_ ?_ hH ?_ (hw:=by kernel_rfl);rotate_left;focus (intro wy hSw;(try dsimp only at hSw);have kk:=HC.out wy hSw;have k0:=kk.1;have k1:=kk.2.1;have k2:=kk.2.2.1;have k3:=kk.2.2.2;clear kk;go_simp;try (with_reducible rfl))
 refine Late.tk 9 ?_ ?_ hH ?_ (hw:=by kernel_rfl);rotate_left;focus (intro wy hSw;(try dsimp only at hSw);have kk:=HC.out wy hSw;have k0:=kk.1;have k1:=kk.2.1;have k2:=kk.2.2.1;have k3:=kk.2.2.2;clear kk;go_simp;try (with_reducible rfl))
 refine Late.tk 10 ?_ ?_ hH ?_ (hw:=by kernel_rfl);rotate_left;focus (intro wy hSw;(try dsimp only at hSw);have kk:=HC.out wy hSw;have k0:=kk.1;have k1:=kk.2.1;have k2:=kk.2.2.1;have k3:=kk.2.2.2;clear kk;go_simp;try (with_reducible rfl))
 refine Late.tk 11 ?_ ?_ hH ?_ (hw:=by kernel_rfl);rotate_left;focus (intro wy hSw;(try dsimp only at hSw);have kk:=HC.out wy hSw;have k0:=kk.1;have k1:=kk.2.1;have k2:=kk.2.2.1;have k3:=kk.2.2.2;clear kk;go_simp;try (with_reducible rfl))
 refine Late.tk 12 ?_ ?_ hH ?_ (hw:=by kernel_rfl);rotate_left;focus (intro wy hSw;(try dsimp only at hSw);have kk:=HC.out wy hSw;have k0:=kk.1;have k1:=kk.2.1;have k2:=kk.2.2.1;have k3:=kk.2.2.2;clear kk;go_simp;try (with_reducible rfl))
 try simp only [Act.put,List.setIfInBounds_toArray,List.set_cons_zero,List.set_cons_succ]
 refine Late.tn 13 hH ?_
 try simp only [Act.put,List.setIfInBounds_toArray,List.set_cons_zero,List.set_cons_succ]
 refine Late.tn 14 hH ?_
 try simp only [Act.put,List.setIfInBounds_toArray,List.set_cons_zero,List.set_cons_succ]
 refine Late.tn 15 hH ?_
 try simp only [Act.put,List.setIfInBounds_toArray,List.set_cons_zero,List.set_cons_succ]
 refine Late.tn 16 hH ?_
 try simp only [Act.put,List.setIfInBounds_toArray,List.set_cons_zero,List.set_cons_succ]
 refine Late.tn 17 hH ?_
 try simp only [Act.put,List.setIfInBounds_toArray,List.set_cons_zero,List.set_cons_succ]
 refine Late.tn 18 hH ?_
 try simp only [Act.put,List.setIfInBounds_toArray,List.set_cons_zero,List.set_cons_succ]
 refine Late.tn 19 hH ?_
 try simp only [Act.put,List.setIfInBounds_toArray,List.set_cons_zero,List.set_cons_succ]
 refine Late.tk 20 ?_ ?_ hH ?_ (hw:=by kernel_rfl);rotate_left;focus (intro wy hSw;(try dsimp only at hSw);have kk:=HC.out wy hSw;have k0:=kk.1;have k1:=kk.2.1;have k2:=kk.2.2.1;have k3:=kk.2.2.2;clear kk;go_simp;try (with_reducible rfl))
 try simp only [Act.put,List.setIfInBounds_toArray,List.set_cons_zero,List.set_cons_succ]
 refine Late.Goes.done (by kernel_rfl) ?_ _
 go_wp2_with fail
 go_ret
 exact ⟨rfl,made_no HH.out HO.out hi (HB0.out.trans HV1.out (fun _ _ h=>h)) HT.out⟩
theorem apply_gen (h:BM w s B T m i) (o:Ok B T m i) (hi:i+1≤400) (r:Rcd) (hr:Rec.Is r) (p:Spt) (hp:SpOk p) (hm:Rec.May r) (hid:r.bucket=B.id) (hg:r.gen≠B.gen) :
  Calls Tryz.prog 9 #[.pointer (some ⟨s.p,0,none⟩),Rec.rv r,spV p] w fun e w'=>e = .returned (.bool false)∧Made w s (app B T r p) (appT B T r p) (i+1) w':=by
 have HT:=Lib.hid (show told B r=false from by unfold told;rw [decide_eq_false (fun h:Own B r=>hg h.2.2)];rfl)
 have n1:(r.bucket != B.id)=false:=by simpa using hid
 have n2:((r.gen:Int) != (B.gen:Int))=true:=by simp;omega
 clear hid
 have HX:=Lib.hid (Blk.two w (Rec.cells r) (spB p) 35 37)
 have HB0:=Lib.hid (((But.refl (fun _=>False) w).alloc (.cells (Rec.cells r) 35)).alloc (.cells (spB p) 37))
 have HH:=Lib.hid h
 have HO:=Lib.hid o
 have HIS:=Lib.hid hr
 have HLT:=Lib.hid h.lt
 have HSP:=Lib.hid hp
 clear h o hr hp
 change Calls _ _ #[.pointer (some ⟨s.p,0,none⟩),.agg #[.int .i64 r.kind,.int .i64 r.bucket,.int .u32 (r.gen:Int),.int .i64 r.keys,.int .i64 r.bytes,.int .i64 r.budget,.int .u64 (r.seq:Int),.int .u32 (r.serial:Int),.int .i64 r.rights,.int .u64 (r.secret:Int),.string r.key,.string r.val,.int .u64 (r.version:Int),.int .u64 (r.expiry:Int)],.agg #[.int .i64 p.1,.int .i64 p.2.1,.int .i64 p.2.2]] w _
 go_enter Tryz.func9,Tryz.ntmps9
 go_wp2_with fail
 obtain ⟨b4,hb4⟩:∃ b,b=w.heap.size:=⟨_,rfl⟩
 change Code.wp _ _ _ _ ((w.alloc (.cells (Rec.cells r) 35)).alloc (.cells (spB p) 37))
 rw [← hb4] at HX
 rw [← hb4]
 generalize (w.alloc (.cells (Rec.cells r) 35)).alloc (.cells (spB p) 37)=W at HX HB0 ⊢
 have HBL:=Lib.hid (show w.heap.size≤b4 from by omega)
 clear hb4
 have HBM:=Lib.hid (fun V (hV:But (fun _=>False) W V)=>HH.out.new (HB0.out.trans hV (fun _ _ h=>h)))
 have HXR:=Lib.hid (fun V (hV:But (fun _=>False) W V)=>show V.rangeAt b4 0 (rcs r) from blk_range0 (A:=[]) (B:=rcs r) (HX.out.1.but hV (fun h=>h)))
 have HC:=Lib.hid (fun V (hV:But (fun _=>False) W V)=>(And.intro (show V.cell? ⟨s.p,0,none⟩=some (.int .i64 B.id) from (HBM.out V hV).cell 0) (And.intro (show V.cell? ⟨s.p,1,none⟩=some (.int .u32 (B.gen:Int)) from (HBM.out V hV).cell 1) (And.intro (show V.cell? ⟨b4,1,none⟩=some (.int .i64 r.bucket) from (HX.out.1.but hV (fun h=>h)).cell 1) (show V.cell? ⟨b4,2,none⟩=some (.int .u32 (r.gen:Int)) from (HX.out.1.but hV (fun h=>h)).cell 2)))))
 refine Late.region_goes (fun V=>But (fun _=>False) W V) (fun _=>false) (by kernel_rfl) ?_ (fun hH=>?_)
 ·exact (But.refl _ W).drew
 refine Late.Goes.takeT (i:=0) (v:=_) (by simp only [List.getElem?_toArray,List.getElem?_cons_succ,List.getElem?_cons_zero];rfl) (by kernel_rfl) (by kernel_rfl) (by kernel_rfl) (by kernel_rfl) (by kernel_rfl) (by exact fun _ _ _ h=>h) (yields_rec (by rfl) _ rfl b4 0 rfl r (fun V hV=>HXR.out V hV)) hH ?_
 try simp only [Act.put,List.setIfInBounds_toArray,List.set_cons_zero,List.set_cons_succ]
 have HV:=Lib.hid hH
 refine Late.Goes.one (i:=1) (by kernel_rfl) (by simp only [List.getElem?_toArray,List.getElem?_cons_succ,List.getElem?_cons_zero];rfl) (fun K hK=>?_)
 clear hH
 go_simp
 go_at_call 28
 refine (Rec.may_any r _).mono ?_
 rintro e w1 ⟨rfl,hbe⟩
 have HV1:=Lib.hid (HV.out.trans (But.of_new hbe:But (fun _=>False) _ _) (fun _ _ h=>h))
 clear hbe
 rw [decide_eq_true hm]
 simp only [Bool.not_true,Bool.not_false]
 refine hK.out _ _ ?_ (fun hH=>?_)
 ·exact fun _=>HV1.out
 clear hK K
 have hH:=hH rfl
 try simp only [Act.put,List.setIfInBounds_toArray,List.set_cons_zero,List.set_cons_succ]
 refine Late.tk 2 ?_ ?_ hH ?_ (hw:=by kernel_rfl);rotate_left;focus (intro wy hSw;(try dsimp only at hSw);have kk:=HC.out wy hSw;have k0:=kk.1;have k1:=kk.2.1;have k2:=kk.2.2.1;have k3:=kk.2.2.2;clear kk;go_simp;try (with_reducible rfl))
 refine Late.tk 3 ?_ ?_ hH ?_ (hw:=by kernel_rfl);rotate_left;focus (intro wy hSw;(try dsimp only at hSw);have kk:=HC.out wy hSw;have k0:=kk.1;have k1:=kk.2.1;have k2:=kk.2.2.1;have k3:=kk.2.2.2;clear kk;go_simp;try (with_reducible rfl))
 refine Late.tk 4 ?_ ?_ hH ?_ (hw:=by kernel_rfl);rotate_left;focus (intro wy hSw;(try dsimp only at hSw);have kk:=HC.out wy hSw;have k0:=kk.1;have k1:=kk.2.1;have k2:=kk.2.2.1;have k3:=kk.2.2.2;clear kk;go_simp;try (with_reducible rfl))
 refine Late.tk 5 ?_ ?_ hH ?_ (hw:=by kernel_rfl);rotate_left;focus (intro wy hSw;(try dsimp only at hSw);have kk:=HC.out wy hSw;have k0:=kk.1;have k1:=kk.2.1;have k2:=kk.2.2.1;have k3:=kk.2.2.2;clear kk;go_simp;try (with_reducible rfl))
 refine Late.tk 6 ?_ ?_ hH ?_ (hw:=by kernel_rfl);rotate_left;focus (intro wy hSw;(try dsimp only at hSw);have kk:=HC.out wy hSw;have k0:=kk.1;have k1:=kk.2.1;have k2:=kk.2.2.1;have k3:=kk.2.2.2;clear kk;go_simp;try (with_reducible rfl))
 refine Late.tk 7 ?_ ?_ hH ?_ (hw:=by kernel_rfl);rotate_left;focus (intro wy hSw;(try dsimp only at hSw);have kk:=HC.out wy hSw;have k0:=kk.1;have k1:=kk.2.1;have k2:=kk.2.2.1;have k3:=kk.2.2.2;clear kk;go_simp;try (with_reducible rfl))
 refine Late.tk 8 ?_ ?_ hH ?_ (hw:=by kernel_rfl);rotate_left;focus (intro wy hSw;(try dsimp only at hSw);have kk:=HC.out wy hSw;have k0:=kk.1;have k1:=kk.2.1;have k2:=kk.2.2.1;have k3:=kk.2.2.2;clear kk;go_simp;try (with_reducible rfl))
 refine Late.tk 9 ?_ ?_ hH ?_ (hw:=by kernel_rfl);rotate_left;focus (intro wy hSw;(try dsimp only at hSw);have kk:=HC.out wy hSw;have k0:=kk.1;have k1:=kk.2.1;have k2:=kk.2.2.1;have k3:=kk.2.2.2;clear kk;go_simp;try (with_reducible rfl))
 refine Late.tk 10 ?_ ?_ hH ?_ (hw:=by kernel_rfl);rotate_left;focus (intro wy hSw;(try dsimp only at hSw);have kk:=HC.out wy hSw;have k0:=kk.1;have k1:=kk.2.1;have k2:=kk.2.2.1;have k3:=kk.2.2.2;clear kk;go_simp;try (with_reducible rfl))
 refine Late.tk 11 ?_ ?_ hH ?_ (hw:=by kernel_rfl);rotate_left;focus (intro wy hSw;(try dsimp only at hSw);have kk:=HC.out wy hSw;have k0:=kk.1;have k1:=kk.2.1;have k2:=kk.2.2.1;have k3:=kk.2.2.2;clear kk;go_simp;try (with_reducible rfl))
 refine Late.tk 12 ?_ ?_ hH ?_ (hw:=by kernel_rfl);rotate_left;focus (intro wy hSw;(try dsimp only at hSw);have kk:=HC.out wy hSw;have k0:=kk.1;have k1:=kk.2.1;have k2:=kk.2.2.1;have k3:=kk.2.2.2;clear kk;go_simp;try (with_reducible rfl))
 refine Late.tk 13 ?_ ?_ hH ?_ (hw:=by kernel_rfl);rotate_left;focus (intro wy hSw;(try dsimp only at hSw);have kk:=HC.out wy hSw;have k0:=kk.1;have k1:=kk.2.1;have k2:=kk.2.2.1;have k3:=kk.2.2.2;clear kk;go_simp;try (with_reducible rfl))
 refine Late.tk 14 ?_ ?_ hH ?_ (hw:=by kernel_rfl);rotate_left;focus (intro wy hSw;(try dsimp only at hSw);have kk:=HC.out wy hSw;have k0:=kk.1;have k1:=kk.2.1;have k2:=kk.2.2.1;have k3:=kk.2.2.2;clear kk;go_simp;try (with_reducible rfl))
 refine Late.tk 15 ?_ ?_ hH ?_ (hw:=by kernel_rfl);rotate_left;focus (intro wy hSw;(try dsimp only at hSw);have kk:=HC.out wy hSw;have k0:=kk.1;have k1:=kk.2.1;have k2:=kk.2.2.1;have k3:=kk.2.2.2;clear kk;go_simp;try (with_reducible rfl))
 refine Late.tk 16 ?_ ?_ hH ?_ (hw:=by kernel_rfl);rotate_left;focus (intro wy hSw;(try dsimp only at hSw);have kk:=HC.out wy hSw;have k0:=kk.1;have k1:=kk.2.1;have k2:=kk.2.2.1;have k3:=kk.2.2.2;clear kk;go_simp;try (with_reducible rfl))
 refine Late.tk 17 ?_ ?_ hH ?_ (hw:=by kernel_rfl);rotate_left;focus (intro wy hSw;(try dsimp only at hSw);have kk:=HC.out wy hSw;have k0:=kk.1;have k1:=kk.2.1;have k2:=kk.2.2.1;have k3:=kk.2.2.2;clear kk;go_simp;try (with_reducible rfl))
 refine Late.tk 18 ?_ ?_ hH ?_ (hw:=by kernel_rfl);rotate_left;focus (intro wy hSw;(try dsimp only at hSw);have kk:=HC.out wy hSw;have k0:=kk.1;have k1:=kk.2.1;have k2:=kk.2.2.1;have k3:=kk.2.2.2;clear kk;go_simp;try (with_reducible rfl))
 refine Late.tk 19 ?_ ?_ hH ?_ (hw:=by kernel_rfl);rotate_left;focus (intro wy hSw;(try dsimp only at hSw);have kk:=HC.out wy hSw;have k0:=kk.1;have k1:=kk.2.1;have k2:=kk.2.2.1;have k3:=kk.2.2.2;clear kk;go_simp;try (with_reducible rfl))
 refine Late.tk 20 ?_ ?_ hH ?_ (hw:=by kernel_rfl);rotate_left;focus (intro wy hSw;(try dsimp only at hSw);have kk:=HC.out wy hSw;have k0:=kk.1;have k1:=kk.2.1;have k2:=kk.2.2.1;have k3:=kk.2.2.2;clear kk;go_simp;try (with_reducible rfl))
 try simp only [Act.put,List.setIfInBounds_toArray,List.set_cons_zero,List.set_cons_succ]
 refine Late.Goes.done (by kernel_rfl) ?_ _
 go_wp2_with fail
 go_ret
 exact ⟨rfl,made_no HH.out HO.out hi (HB0.out.trans HV1.out (fun _ _ h=>h)) HT.out⟩
theorem apply_put (h:BM w s B T m i) (o:Ok B T m i) (hi:i+1≤400) (r:Rcd) (hr:Rec.Is r) (p:Spt) (hp:SpOk p) (hown:Own B r) (hk:r.kind=3) :
  Calls Tryz.prog 9 #[.pointer (some ⟨s.p,0,none⟩),Rec.rv r,spV p] w fun e w'=>e = .returned (.bool true)∧Made w s (app B T r p) (appT B T r p) (i+1) w':=by
 have n1:(r.bucket != B.id)=false:=by simpa using hown.2.1
 have n2:((r.gen:Int) != (B.gen:Int))=false:=by have:=hown.2.2;simp;omega
 have HOW:=Lib.hid hown
 have HK:=Lib.hid hk
 clear hk
 have HCO:=Lib.hid (cost_le hown.1)
 clear hown
 have HX:=Lib.hid (Blk.two w (Rec.cells r) (spB p) 35 37)
 have HB0:=Lib.hid (((But.refl (fun _=>False) w).alloc (.cells (Rec.cells r) 35)).alloc (.cells (spB p) 37))
 have HH:=Lib.hid h
 have HO:=Lib.hid o
 have HIS:=Lib.hid hr
 have HLT:=Lib.hid h.lt
 have HSP:=Lib.hid hp
 clear h o hr hp
 change Calls _ _ #[.pointer (some ⟨s.p,0,none⟩),.agg #[.int .i64 r.kind,.int .i64 r.bucket,.int .u32 (r.gen:Int),.int .i64 r.keys,.int .i64 r.bytes,.int .i64 r.budget,.int .u64 (r.seq:Int),.int .u32 (r.serial:Int),.int .i64 r.rights,.int .u64 (r.secret:Int),.string r.key,.string r.val,.int .u64 (r.version:Int),.int .u64 (r.expiry:Int)],.agg #[.int .i64 p.1,.int .i64 p.2.1,.int .i64 p.2.2]] w _
 go_enter Tryz.func9,Tryz.ntmps9
 go_wp2_with fail
 obtain ⟨b4,hb4⟩:∃ b,b=w.heap.size:=⟨_,rfl⟩
 change Code.wp _ _ _ _ ((w.alloc (.cells (Rec.cells r) 35)).alloc (.cells (spB p) 37))
 rw [← hb4] at HX
 rw [← hb4]
 generalize (w.alloc (.cells (Rec.cells r) 35)).alloc (.cells (spB p) 37)=W at HX HB0 ⊢
 have HBL:=Lib.hid (show w.heap.size≤b4 from by omega)
 clear hb4
 have HBM:=Lib.hid (fun V (hV:But (fun _=>False) W V)=>HH.out.new (HB0.out.trans hV (fun _ _ h=>h)))
 have HXR:=Lib.hid (fun V (hV:But (fun _=>False) W V)=>show V.rangeAt b4 0 (rcs r) from blk_range0 (A:=[]) (B:=rcs r) (HX.out.1.but hV (fun h=>h)))
 have HC:=Lib.hid (fun V (hV:But (fun _=>False) W V)=>(And.intro (show V.cell? ⟨s.p,0,none⟩=some (.int .i64 B.id) from (HBM.out V hV).cell 0) (And.intro (show V.cell? ⟨s.p,1,none⟩=some (.int .u32 (B.gen:Int)) from (HBM.out V hV).cell 1) (And.intro (show V.cell? ⟨b4,1,none⟩=some (.int .i64 r.bucket) from (HX.out.1.but hV (fun h=>h)).cell 1) (show V.cell? ⟨b4,2,none⟩=some (.int .u32 (r.gen:Int)) from (HX.out.1.but hV (fun h=>h)).cell 2)))))
 refine Late.region_goes (fun V=>But (fun _=>False) W V) (fun _=>false) (by kernel_rfl) ?_ (fun hH=>?_)
 ·exact (But.refl _ W).drew
 refine Late.Goes.takeT (i:=0) (v:=_) (by simp only [List.getElem?_toArray,List.getElem?_cons_succ,List.getElem?_cons_zero];rfl) (by kernel_rfl) (by kernel_rfl) (by kernel_rfl) (by kernel_rfl) (by kernel_rfl) (by exact fun _ _ _ h=>h) (yields_rec (by rfl) _ rfl b4 0 rfl r (fun V hV=>HXR.out V hV)) hH ?_
 try simp only [Act.put,List.setIfInBounds_toArray,List.set_cons_zero,List.set_cons_succ]
 have HV:=Lib.hid hH
 refine Late.Goes.one (i:=1) (by kernel_rfl) (by simp only [List.getElem?_toArray,List.getElem?_cons_succ,List.getElem?_cons_zero];rfl) (fun K hK=>?_)
 clear hH
 go_simp
 go_at_call 28
 refine (Rec.may_any r _).mono ?_
 rintro e w1 ⟨rfl,hbe⟩
 have HV1:=Lib.hid (HV.out.trans (But.of_new hbe:But (fun _=>False) _ _) (fun _ _ h=>h))
 clear hbe
 rw [decide_eq_true HOW.out.1]
 simp only [Bool.not_true,Bool.not_false]
 refine hK.out _ _ ?_ (fun hH=>?_)
 ·exact fun _=>HV1.out
 clear hK K
 have hH:=hH rfl
 try simp only [Act.put,List.setIfInBounds_toArray,List.set_cons_zero,List.set_cons_succ]
 refine Late.tk 2 ?_ ?_ hH ?_ (hw:=by kernel_rfl);rotate_left;focus (intro wy hSw;(try dsimp only at hSw);have kk:=HC.out wy hSw;have k0:=kk.1;have k1:=kk.2.1;have k2:=kk.2.2.1;have k3:=kk.2.2.2;clear kk;go_simp;try (with_reducible rfl))
 refine Late.tk 3 ?_ ?_ hH ?_ (hw:=by kernel_rfl);rotate_left;focus (intro wy hSw;(try dsimp only at hSw);have kk:=HC.out wy hSw;have k0:=kk.1;have k1:=kk.2.1;have k2:=kk.2.2.1;have k3:=kk.2.2.2;clear kk;go_simp;try (with_reducible rfl))
 refine Late.tk 4 ?_ ?_ hH ?_ (hw:=by kernel_rfl);rotate_left;focus (intro wy hSw;(try dsimp only at hSw);have kk:=HC.out wy hSw;have k0:=kk.1;have k1:=kk.2.1;have k2:=kk.2.2.1;have k3:=kk.2.2.2;clear kk;go_simp;try (with_reducible rfl))
 refine Late.tk 5 ?_ ?_ hH ?_ (hw:=by kernel_rfl);rotate_left;focus (intro wy hSw;(try dsimp only at hSw);have kk:=HC.out wy hSw;have k0:=kk.1;have k1:=kk.2.1;have k2:=kk.2.2.1;have k3:=kk.2.2.2;clear kk;go_simp;try (with_reducible rfl))
 refine Late.tk 6 ?_ ?_ hH ?_ (hw:=by kernel_rfl);rotate_left;focus (intro wy hSw;(try dsimp only at hSw);have kk:=HC.out wy hSw;have k0:=kk.1;have k1:=kk.2.1;have k2:=kk.2.2.1;have k3:=kk.2.2.2;clear kk;go_simp;try (with_reducible rfl))
 refine Late.tk 7 ?_ ?_ hH ?_ (hw:=by kernel_rfl);rotate_left;focus (intro wy hSw;(try dsimp only at hSw);have kk:=HC.out wy hSw;have k0:=kk.1;have k1:=kk.2.1;have k2:=kk.2.2.1;have k3:=kk.2.2.2;clear kk;go_simp;try (with_reducible rfl))
 refine Late.tk 8 ?_ ?_ hH ?_ (hw:=by kernel_rfl);rotate_left;focus (intro wy hSw;(try dsimp only at hSw);have kk:=HC.out wy hSw;have k0:=kk.1;have k1:=kk.2.1;have k2:=kk.2.2.1;have k3:=kk.2.2.2;clear kk;go_simp;try (with_reducible rfl))
 refine Late.tk 9 ?_ ?_ hH ?_ (hw:=by kernel_rfl);rotate_left;focus (intro wy hSw;(try dsimp only at hSw);have kk:=HC.out wy hSw;have k0:=kk.1;have k1:=kk.2.1;have k2:=kk.2.2.1;have k3:=kk.2.2.2;clear kk;go_simp;try (with_reducible rfl))
 refine Late.tk 10 ?_ ?_ hH ?_ (hw:=by kernel_rfl);rotate_left;focus (intro wy hSw;(try dsimp only at hSw);have kk:=HC.out wy hSw;have k0:=kk.1;have k1:=kk.2.1;have k2:=kk.2.2.1;have k3:=kk.2.2.2;clear kk;go_simp;try (with_reducible rfl))
 refine Late.tk 11 ?_ ?_ hH ?_ (hw:=by kernel_rfl);rotate_left;focus (intro wy hSw;(try dsimp only at hSw);have kk:=HC.out wy hSw;have k0:=kk.1;have k1:=kk.2.1;have k2:=kk.2.2.1;have k3:=kk.2.2.2;clear kk;go_simp;try (with_reducible rfl))
 refine Late.tk 12 ?_ ?_ hH ?_ (hw:=by kernel_rfl);rotate_left;focus (intro wy hSw;(try dsimp only at hSw);have kk:=HC.out wy hSw;have k0:=kk.1;have k1:=kk.2.1;have k2:=kk.2.2.1;have k3:=kk.2.2.2;clear kk;go_simp;try (with_reducible rfl))
 refine Late.tk 13 ?_ ?_ hH ?_ (hw:=by kernel_rfl);rotate_left;focus (intro wy hSw;(try dsimp only at hSw);have kk:=HC.out wy hSw;have k0:=kk.1;have k1:=kk.2.1;have k2:=kk.2.2.1;have k3:=kk.2.2.2;clear kk;go_simp;try (with_reducible rfl))
 refine Late.tk 14 ?_ ?_ hH ?_ (hw:=by kernel_rfl);rotate_left;focus (intro wy hSw;(try dsimp only at hSw);have kk:=HC.out wy hSw;have k0:=kk.1;have k1:=kk.2.1;have k2:=kk.2.2.1;have k3:=kk.2.2.2;clear kk;go_simp;try (with_reducible rfl))
 refine Late.tk 15 ?_ ?_ hH ?_ (hw:=by kernel_rfl);rotate_left;focus (intro wy hSw;(try dsimp only at hSw);have kk:=HC.out wy hSw;have k0:=kk.1;have k1:=kk.2.1;have k2:=kk.2.2.1;have k3:=kk.2.2.2;clear kk;go_simp;try (with_reducible rfl))
 refine Late.tk 16 ?_ ?_ hH ?_ (hw:=by kernel_rfl);rotate_left;focus (intro wy hSw;(try dsimp only at hSw);have kk:=HC.out wy hSw;have k0:=kk.1;have k1:=kk.2.1;have k2:=kk.2.2.1;have k3:=kk.2.2.2;clear kk;go_simp;try (with_reducible rfl))
 refine Late.tk 17 ?_ ?_ hH ?_ (hw:=by kernel_rfl);rotate_left;focus (intro wy hSw;(try dsimp only at hSw);have kk:=HC.out wy hSw;have k0:=kk.1;have k1:=kk.2.1;have k2:=kk.2.2.1;have k3:=kk.2.2.2;clear kk;go_simp;try (with_reducible rfl))
 refine Late.tk 18 ?_ ?_ hH ?_ (hw:=by kernel_rfl);rotate_left;focus (intro wy hSw;(try dsimp only at hSw);have kk:=HC.out wy hSw;have k0:=kk.1;have k1:=kk.2.1;have k2:=kk.2.2.1;have k3:=kk.2.2.2;clear kk;go_simp;try (with_reducible rfl))
 refine Late.tk 19 ?_ ?_ hH ?_ (hw:=by kernel_rfl);rotate_left;focus (intro wy hSw;(try dsimp only at hSw);have kk:=HC.out wy hSw;have k0:=kk.1;have k1:=kk.2.1;have k2:=kk.2.2.1;have k3:=kk.2.2.2;clear kk;go_simp;try (with_reducible rfl))
 refine Late.tk 20 ?_ ?_ hH ?_ (hw:=by kernel_rfl);rotate_left;focus (intro wy hSw;(try dsimp only at hSw);have kk:=HC.out wy hSw;have k0:=kk.1;have k1:=kk.2.1;have k2:=kk.2.2.1;have k3:=kk.2.2.2;clear kk;go_simp;try (with_reducible rfl))
 try simp only [Act.put,List.setIfInBounds_toArray,List.set_cons_zero,List.set_cons_succ]
 refine Late.Goes.done (by kernel_rfl) ?_ _
 have HX1:=Lib.hid (And.intro (HX.out.1.but HV1.out (fun h=>h)) (HX.out.2.but HV1.out (fun h=>h)))
 have HM1:=Lib.hid (HBM.out _ HV1.out)
 have HS1:=Lib.hid (Step.of_new (s:=s) (HB0.out.trans HV1.out (fun _ _ h=>h)))
 have c0:w1.cell? ⟨b4,0,none⟩=some (.int .i64 3):=by
  have h:w1.cell? ⟨b4,0,none⟩=some (.int .i64 r.kind):=HX1.out.1.cell 0
  rw [HK.out] at h
  exact h
 clear n1 n2 HXR HC HBM HV1 HV hH
 have HE:=Lib.hid (show OkE (entOf r p) from by
  have hf:=HOW.out.1.2.2.2.2.2.2
  unfold Rec.fits at hf
  rw [if_neg (by rw [HK.out];decide),if_pos HK.out] at hf
  have h1:=hf.1
  unfold Rec.keyMay at h1
  exact ⟨h1,⟨by show (0:Int)≤(r.val.size:Int);omega,by show (r.val.size:Int)≤1000;have:=hf.2;omega⟩,HSP.out.a,HSP.out.b,HSP.out.c,HIS.out.version,HIS.out.expiry⟩)
 have c10:w1.cell? ⟨b4,10,none⟩=some (.string r.key):=HX1.out.1.cell 10
 have c11:w1.cell? ⟨b4,11,none⟩=some (.string r.val):=HX1.out.1.cell 11
 have c12:w1.cell? ⟨b4,12,none⟩=some (.int .u64 (r.version:Int)):=HX1.out.1.cell 12
 have c13:w1.cell? ⟨b4,13,none⟩=some (.int .u64 (r.expiry:Int)):=HX1.out.1.cell 13
 have d0:w1.cell? ⟨b4+1,0,none⟩=some (.int .i64 p.1):=HX1.out.2.cell 0
 have d1:w1.cell? ⟨b4+1,1,none⟩=some (.int .i64 p.2.1):=HX1.out.2.cell 1
 have d2:w1.cell? ⟨b4+1,2,none⟩=some (.int .i64 p.2.2):=HX1.out.2.cell 2
 go_wp2_with fail
 refine (put_any HM1.out HO.out (entOf r p) HE.out hi).mono ?_
 rintro e w2 ⟨rfl,s2,m2,hm2,ho2,hs2⟩
 have hnb:=HM1.out.no HX1.out.1 (by decide)
 have HX2:=Lib.hid (HX1.out.1.but hs2.but hnb)
 have HM2:=Lib.hid hm2
 have HO2:=Lib.hid ho2
 have HS2:=Lib.hid (HS1.out.trans hs2)
 have HP2:=Lib.hid (show s2.p=s.p from hs2.p)
 clear hm2 ho2 hs2 hnb c0 c10 c11 c12 c13 d0 d1 d2
 have HC1:=Lib.hid (fun V (hV:But (fun _=>False) w2 V)=>show V.cell? ⟨s.p,5,none⟩=some (.int .u64 (B.seq:Int))∧V.cell? ⟨b4,12,none⟩=some (.int .u64 (r.version:Int))∧V.frozen? ⟨s.p,5,none⟩=false from ⟨by
   have:=(HM2.out.new hV).cell 5
   (try rw [HP2.out] at this)
   exact this,(HX2.out.but hV (fun h=>h)).cell 12,by
   have:=(HM2.out.new hV).blk.frozen 5
   (try rw [HP2.out] at this)
   exact this⟩)
 go_wp2_with fail
 refine Late.region_goes (fun V=>But (fun _=>False) w2 V) (fun j=>j == 10) (by kernel_rfl) ?_ (fun hH=>?_)
 ·exact (But.refl _ w2).drew
 refine Late.tk 0 ?_ ?_ hH ?_;rotate_left 2
 refine Late.tk 1 ?_ ?_ hH ?_;rotate_left 2
 refine Late.tk 2 ?_ ?_ hH ?_;rotate_left 2
 refine Late.tk 3 ?_ ?_ hH ?_;rotate_left 2
 refine Late.tk 4 ?_ ?_ hH ?_;rotate_left 2
 refine Late.tk 5 ?_ ?_ hH ?_;rotate_left 2
 refine Late.tk 6 ?_ ?_ hH ?_;rotate_left 2
 rotate_left
 any_goals (intro wy hSw;(try dsimp only at hSw);have k0:=(HC1.out wy hSw).1;have k1:=(HC1.out wy hSw).2.1;go_simp;try (with_reducible rfl))
 try simp only [Act.put,List.setIfInBounds_toArray,List.set_cons_zero,List.set_cons_succ]
 have HVQ:=Lib.hid hH
 refine Late.Goes.one (i:=7) (by kernel_rfl) (by simp only [List.getElem?_toArray,List.getElem?_cons_succ,List.getElem?_cons_zero];rfl) (fun K hK=>?_)
 clear hH
 go_simp
 go_at_call 30
 refine (behind64 B.seq r.version HO.out.seq HIS.out.version _).mono ?_
 rintro e wq ⟨rfl,hwq⟩
 have HBQ:=Lib.hid (show But (fun _=>False) w2 wq from by rw [← hwq];exact HVQ.out)
 clear hwq
 refine hK.out _ _ ?_ (fun hH=>?_)
 ·exact fun _=>HBQ.out
 clear hK K
 have hH:=hH rfl
 try simp only [Act.put,List.setIfInBounds_toArray,List.set_cons_zero,List.set_cons_succ]
 refine Late.tk 8 ?_ ?_ hH ?_;rotate_left 2
 refine Late.tk 9 ?_ ?_ hH ?_;rotate_left 2
 rotate_left
 any_goals (intro wy hSw;(try dsimp only at hSw);have k0:=(HC1.out wy hSw).1;have k1:=(HC1.out wy hSw).2.1;go_simp;try (with_reducible rfl))
 try simp only [Act.put,List.setIfInBounds_toArray,List.set_cons_zero,List.set_cons_succ]
 have k9:=(HC1.out wq HBQ.out).1
 have f9:=(HC1.out wq HBQ.out).2.2
 refine Late.Goes.one (i:=10) (by kernel_rfl) (by simp only [List.getElem?_toArray,List.getElem?_cons_succ,List.getElem?_cons_zero];rfl) (fun K hK=>?_)
 clear hH
 go_simp
 clear k9 f9
 have HF1:=Lib.hid ((HM2.out.new HBQ.out).step_cell 5 (.int .u64 ((b64 B.seq r.version:Nat):Int)) (B':={ { B with bytes:=tot (all (Key.put T (entOf r p))) } with seq:=b64 B.seq r.version }) rfl rfl)
 (try rw [HP2.out] at HF1)
 have HXz:=Lib.hid ((HX2.out.but HBQ.out (fun h=>h)).but ((But.refl (fun k=>k=s.p) wq).setCell (p:=⟨s.p,5,none⟩) rfl (.int .u64 ((b64 B.seq r.version:Nat):Int))) (fun e=>HM2.out.no HX2.out (by decide) (.inl (by first|exact e|exact e.trans HP2.out.symm))))
 generalize wq.setCell ⟨s.p,5,none⟩ (.int .u64 ((b64 B.seq r.version:Nat):Int))=wz at HF1 HXz ⊢
 have HMz:=Lib.hid HF1.out.1
 have HSz:=Lib.hid (HS2.out.trans ((Step.of_new HBQ.out).trans HF1.out.2))
 have HPz:=HP2
 refine hK.out _ _ ?_ (fun _=>?_)
 ·exact fun h=>by cases h
 clear hK K
 try simp only [Act.put,List.setIfInBounds_toArray,List.set_cons_zero,List.set_cons_succ]
 refine Late.Goes.done (by kernel_rfl) ?_ _
 obtain ⟨c,hc⟩:∃ c,c=Rec.costOf r:=⟨_,rfl⟩
 have HCC:=Lib.hid hc
 have HCB:=Lib.hid (show 14≤c∧c≤1098 from by rw [hc];exact HCO.out)
 clear hc
 obtain ⟨z,hz⟩:∃ z,z=B.charged:=⟨_,rfl⟩
 have HZZ:=Lib.hid hz
 have HZB:=Lib.hid (show 0≤z∧z≤2000 * (i:Int)∧i≤399∧14≤c∧c≤1098 from ⟨by rw [hz];exact HO.out.charged.1,by rw [hz];exact HO.out.charged.2,by omega,HCB.out.1,HCB.out.2⟩)
 clear hz
 have HZ:=Lib.hid (show some (Value.int .i64 B.charged)=some (.int .i64 z) from by rw [HZZ.out])
 obtain ⟨Bch,hBch⟩:∃ b:Bk,b={ B with bytes:=tot (all (Key.put T (entOf r p))),seq:=b64 B.seq r.version,charged:=z+c }:=⟨_,rfl⟩
 have HBC:=Lib.hid (show (bcells { B with bytes:=tot (all (Key.put T (entOf r p))),seq:=b64 B.seq r.version } s2).setIfInBounds 11 (.int .i64 (z+c))=bcells Bch s2 from by rw [hBch];rfl)
 have HOz:=Lib.hid (show Ok Bch (Key.put T (entOf r p)) m2 (i+1) from by
  rw [hBch]
  exact HO2.out.with (b64 B.seq r.version) B.serial (z+c) B.toks (by have:=bump_le (top:=18446744073709551615) (c:=B.seq) (n:=r.version) (by have:=HO.out.seq;omega);unfold b64;omega) HO.out.serial (by have:=HZB.out;omega) B.q1 B.q2 B.q3)
 have HEND:=Lib.hid (show app B T r p=Bch∧appT B T r p=Key.put T (entOf r p) from by
  have ht:told B r=true:=by unfold told;rw [decide_eq_true HOW.out,HK.out];rfl
  unfold app appT madeT made
  rw [ht,HK.out,hBch,HZZ.out,HCC.out]
  exact ⟨rfl,rfl⟩)
 have hBt:Bch.toks=B.toks:=by rw [hBch]
 clear hBch
 have HCZ:=Lib.hid (fun V (hV:But (fun _=>False) wz V)=>show V.cell? ⟨s.p,11,none⟩=some (.int .i64 z) from by
  have:=(HMz.out.new hV).cell 11
  (try rw [HPz.out] at this)
  exact this.trans HZ.out)
 have HRZ:=Lib.hid (fun V (hV:But (fun _=>False) wz V)=>show V.rangeAt b4 0 (rcs r) from blk_range0 (A:=[]) (B:=rcs r) (HXz.out.but hV (fun h=>h)))
 have ww:IntKind.i64.wrap (z+c)=z+c:=IntWalk.i64_in _ (by have:=HZB.out;omega)
 go_wp2_with fail
 refine Late.region_goes (fun V=>But (fun _=>False) wz V) (fun j=>j == 9) (by kernel_rfl) ?_ (fun hH=>?_)
 ·exact (But.refl _ wz).drew
 refine Late.tk 0 ?_ ?_ hH ?_;rotate_left 2
 refine Late.tk 1 ?_ ?_ hH ?_;rotate_left 2
 refine Late.tk 2 ?_ ?_ hH ?_;rotate_left 2
 refine Late.tk 3 ?_ ?_ hH ?_;rotate_left 2
 rotate_left
 any_goals (intro wy hSw;(try dsimp only at hSw);have k0:=HCZ.out wy hSw;go_simp;try (with_reducible rfl))
 try simp only [Act.put,List.setIfInBounds_toArray,List.set_cons_zero,List.set_cons_succ]
 refine Late.Goes.takeT (i:=4) (v:=_) (by simp only [List.getElem?_toArray,List.getElem?_cons_succ,List.getElem?_cons_zero];rfl) (by kernel_rfl) (by kernel_rfl) (by kernel_rfl) (by kernel_rfl) (by kernel_rfl) (by exact fun _ _ _ h=>h) (yields_rec (by rfl) _ rfl b4 0 rfl r (fun V hV=>HRZ.out V hV)) hH ?_
 try simp only [Act.put,List.setIfInBounds_toArray,List.set_cons_zero,List.set_cons_succ]
 have HVz:=Lib.hid hH
 refine Late.Goes.one (i:=5) (by kernel_rfl) (by simp only [List.getElem?_toArray,List.getElem?_cons_succ,List.getElem?_cons_zero];rfl) (fun K hK=>?_)
 clear hH
 go_simp
 go_at_call 34
 refine (Rec.cost_any r HIS.out _).mono ?_
 rintro e wy ⟨rfl,hbe⟩
 rw [← HCC.out]
 have HVy:=Lib.hid (HVz.out.trans (But.of_new hbe:But (fun _=>False) _ _) (fun _ _ h=>h))
 clear hbe
 refine hK.out _ _ ?_ (fun hH=>?_)
 ·exact fun _=>HVy.out
 clear hK K
 have hH:=hH rfl
 try simp only [Act.put,List.setIfInBounds_toArray,List.set_cons_zero,List.set_cons_succ]
 refine Late.tk 6 ?_ ?_ hH ?_;rotate_left 2
 refine Late.tk 7 ?_ ?_ hH ?_;rotate_left 2
 refine Late.tk 8 ?_ ?_ hH ?_;rotate_left 2
 rotate_left
 any_goals (intro wy hSw;(try dsimp only at hSw);have k0:=HCZ.out wy hSw;go_simp;try (with_reducible rfl))
 try simp only [Act.put,List.setIfInBounds_toArray,List.set_cons_zero,List.set_cons_succ]
 have f9:wy.frozen? ⟨s.p,11,none⟩=false:=by have:=(HMz.out.new HVy.out).blk.frozen 11;(try rw [HPz.out] at this);exact this
 have k9:=HCZ.out _ HVy.out
 refine Late.Goes.one (i:=9) (by kernel_rfl) (by simp only [List.getElem?_toArray,List.getElem?_cons_succ,List.getElem?_cons_zero];rfl) (fun K hK=>?_)
 clear hH
 go_simp
 clear k9 f9
 have HF:=Lib.hid ((HMz.out.new HVy.out).step_cell 11 (.int .i64 (z+c)) (B':=Bch) HBC.out hBt)
 (try rw [HPz.out] at HF)
 generalize wy.setCell ⟨s.p,11,none⟩ (.int .i64 (z+c))=wx at HF ⊢
 refine hK.out _ _ ?_ (fun _=>?_)
 ·exact fun h=>by cases h
 clear hK K
 try simp only [Act.put,List.setIfInBounds_toArray,List.set_cons_zero,List.set_cons_succ]
 refine Late.Goes.done (by kernel_rfl) ?_ _
 go_wp2_with fail
 have hst:=stale_any HF.out.1 HOz.out
 (try rw [HPz.out] at hst)
 refine hst.mono ?_
 rintro e wv ⟨rfl,hmade⟩
 have HE:=Lib.hid (Made.trans (HSz.out.trans ((Step.of_new HVy.out).trans HF.out.2)) hmade)
 clear hmade hst
 go_wp2_with fail
 go_ret
 rw [HEND.out.1,HEND.out.2]
 exact ⟨rfl,HE.out⟩
theorem apply_del (h:BM w s B T m i) (o:Ok B T m i) (hi:i+1≤400) (r:Rcd) (hr:Rec.Is r) (p:Spt) (hp:SpOk p) (hown:Own B r) (hk:r.kind=4) :
  Calls Tryz.prog 9 #[.pointer (some ⟨s.p,0,none⟩),Rec.rv r,spV p] w fun e w'=>e = .returned (.bool true)∧Made w s (app B T r p) (appT B T r p) (i+1) w':=by
 have n1:(r.bucket != B.id)=false:=by simpa using hown.2.1
 have n2:((r.gen:Int) != (B.gen:Int))=false:=by have:=hown.2.2;simp;omega
 have HOW:=Lib.hid hown
 have HK:=Lib.hid hk
 clear hk
 have HCO:=Lib.hid (cost_le hown.1)
 clear hown
 have HX:=Lib.hid (Blk.two w (Rec.cells r) (spB p) 35 37)
 have HB0:=Lib.hid (((But.refl (fun _=>False) w).alloc (.cells (Rec.cells r) 35)).alloc (.cells (spB p) 37))
 have HH:=Lib.hid h
 have HO:=Lib.hid o
 have HIS:=Lib.hid hr
 have HLT:=Lib.hid h.lt
 have HSP:=Lib.hid hp
 clear h o hr hp
 change Calls _ _ #[.pointer (some ⟨s.p,0,none⟩),.agg #[.int .i64 r.kind,.int .i64 r.bucket,.int .u32 (r.gen:Int),.int .i64 r.keys,.int .i64 r.bytes,.int .i64 r.budget,.int .u64 (r.seq:Int),.int .u32 (r.serial:Int),.int .i64 r.rights,.int .u64 (r.secret:Int),.string r.key,.string r.val,.int .u64 (r.version:Int),.int .u64 (r.expiry:Int)],.agg #[.int .i64 p.1,.int .i64 p.2.1,.int .i64 p.2.2]] w _
 go_enter Tryz.func9,Tryz.ntmps9
 go_wp2_with fail
 obtain ⟨b4,hb4⟩:∃ b,b=w.heap.size:=⟨_,rfl⟩
 change Code.wp _ _ _ _ ((w.alloc (.cells (Rec.cells r) 35)).alloc (.cells (spB p) 37))
 rw [← hb4] at HX
 rw [← hb4]
 generalize (w.alloc (.cells (Rec.cells r) 35)).alloc (.cells (spB p) 37)=W at HX HB0 ⊢
 have HBL:=Lib.hid (show w.heap.size≤b4 from by omega)
 clear hb4
 have HBM:=Lib.hid (fun V (hV:But (fun _=>False) W V)=>HH.out.new (HB0.out.trans hV (fun _ _ h=>h)))
 have HXR:=Lib.hid (fun V (hV:But (fun _=>False) W V)=>show V.rangeAt b4 0 (rcs r) from blk_range0 (A:=[]) (B:=rcs r) (HX.out.1.but hV (fun h=>h)))
 have HC:=Lib.hid (fun V (hV:But (fun _=>False) W V)=>(And.intro (show V.cell? ⟨s.p,0,none⟩=some (.int .i64 B.id) from (HBM.out V hV).cell 0) (And.intro (show V.cell? ⟨s.p,1,none⟩=some (.int .u32 (B.gen:Int)) from (HBM.out V hV).cell 1) (And.intro (show V.cell? ⟨b4,1,none⟩=some (.int .i64 r.bucket) from (HX.out.1.but hV (fun h=>h)).cell 1) (show V.cell? ⟨b4,2,none⟩=some (.int .u32 (r.gen:Int)) from (HX.out.1.but hV (fun h=>h)).cell 2)))))
 refine Late.region_goes (fun V=>But (fun _=>False) W V) (fun _=>false) (by kernel_rfl) ?_ (fun hH=>?_)
 ·exact (But.refl _ W).drew
 refine Late.Goes.takeT (i:=0) (v:=_) (by simp only [List.getElem?_toArray,List.getElem?_cons_succ,List.getElem?_cons_zero];rfl) (by kernel_rfl) (by kernel_rfl) (by kernel_rfl) (by kernel_rfl) (by kernel_rfl) (by exact fun _ _ _ h=>h) (yields_rec (by rfl) _ rfl b4 0 rfl r (fun V hV=>HXR.out V hV)) hH ?_
 try simp only [Act.put,List.setIfInBounds_toArray,List.set_cons_zero,List.set_cons_succ]
 have HV:=Lib.hid hH
 refine Late.Goes.one (i:=1) (by kernel_rfl) (by simp only [List.getElem?_toArray,List.getElem?_cons_succ,List.getElem?_cons_zero];rfl) (fun K hK=>?_)
 clear hH
 go_simp
 go_at_call 28
 refine (Rec.may_any r _).mono ?_
 rintro e w1 ⟨rfl,hbe⟩
 have HV1:=Lib.hid (HV.out.trans (But.of_new hbe:But (fun _=>False) _ _) (fun _ _ h=>h))
 clear hbe
 rw [decide_eq_true HOW.out.1]
 simp only [Bool.not_true,Bool.not_false]
 refine hK.out _ _ ?_ (fun hH=>?_)
 ·exact fun _=>HV1.out
 clear hK K
 have hH:=hH rfl
 try simp only [Act.put,List.setIfInBounds_toArray,List.set_cons_zero,List.set_cons_succ]
 refine Late.tk 2 ?_ ?_ hH ?_ (hw:=by kernel_rfl);rotate_left;focus (intro wy hSw;(try dsimp only at hSw);have kk:=HC.out wy hSw;have k0:=kk.1;have k1:=kk.2.1;have k2:=kk.2.2.1;have k3:=kk.2.2.2;clear kk;go_simp;try (with_reducible rfl))
 refine Late.tk 3 ?_ ?_ hH ?_ (hw:=by kernel_rfl);rotate_left;focus (intro wy hSw;(try dsimp only at hSw);have kk:=HC.out wy hSw;have k0:=kk.1;have k1:=kk.2.1;have k2:=kk.2.2.1;have k3:=kk.2.2.2;clear kk;go_simp;try (with_reducible rfl))
 refine Late.tk 4 ?_ ?_ hH ?_ (hw:=by kernel_rfl);rotate_left;focus (intro wy hSw;(try dsimp only at hSw);have kk:=HC.out wy hSw;have k0:=kk.1;have k1:=kk.2.1;have k2:=kk.2.2.1;have k3:=kk.2.2.2;clear kk;go_simp;try (with_reducible rfl))
 refine Late.tk 5 ?_ ?_ hH ?_ (hw:=by kernel_rfl);rotate_left;focus (intro wy hSw;(try dsimp only at hSw);have kk:=HC.out wy hSw;have k0:=kk.1;have k1:=kk.2.1;have k2:=kk.2.2.1;have k3:=kk.2.2.2;clear kk;go_simp;try (with_reducible rfl))
 refine Late.tk 6 ?_ ?_ hH ?_ (hw:=by kernel_rfl);rotate_left;focus (intro wy hSw;(try dsimp only at hSw);have kk:=HC.out wy hSw;have k0:=kk.1;have k1:=kk.2.1;have k2:=kk.2.2.1;have k3:=kk.2.2.2;clear kk;go_simp;try (with_reducible rfl))
 refine Late.tk 7 ?_ ?_ hH ?_ (hw:=by kernel_rfl);rotate_left;focus (intro wy hSw;(try dsimp only at hSw);have kk:=HC.out wy hSw;have k0:=kk.1;have k1:=kk.2.1;have k2:=kk.2.2.1;have k3:=kk.2.2.2;clear kk;go_simp;try (with_reducible rfl))
 refine Late.tk 8 ?_ ?_ hH ?_ (hw:=by kernel_rfl);rotate_left;focus (intro wy hSw;(try dsimp only at hSw);have kk:=HC.out wy hSw;have k0:=kk.1;have k1:=kk.2.1;have k2:=kk.2.2.1;have k3:=kk.2.2.2;clear kk;go_simp;try (with_reducible rfl))
 refine Late.tk 9 ?_ ?_ hH ?_ (hw:=by kernel_rfl);rotate_left;focus (intro wy hSw;(try dsimp only at hSw);have kk:=HC.out wy hSw;have k0:=kk.1;have k1:=kk.2.1;have k2:=kk.2.2.1;have k3:=kk.2.2.2;clear kk;go_simp;try (with_reducible rfl))
 refine Late.tk 10 ?_ ?_ hH ?_ (hw:=by kernel_rfl);rotate_left;focus (intro wy hSw;(try dsimp only at hSw);have kk:=HC.out wy hSw;have k0:=kk.1;have k1:=kk.2.1;have k2:=kk.2.2.1;have k3:=kk.2.2.2;clear kk;go_simp;try (with_reducible rfl))
 refine Late.tk 11 ?_ ?_ hH ?_ (hw:=by kernel_rfl);rotate_left;focus (intro wy hSw;(try dsimp only at hSw);have kk:=HC.out wy hSw;have k0:=kk.1;have k1:=kk.2.1;have k2:=kk.2.2.1;have k3:=kk.2.2.2;clear kk;go_simp;try (with_reducible rfl))
 refine Late.tk 12 ?_ ?_ hH ?_ (hw:=by kernel_rfl);rotate_left;focus (intro wy hSw;(try dsimp only at hSw);have kk:=HC.out wy hSw;have k0:=kk.1;have k1:=kk.2.1;have k2:=kk.2.2.1;have k3:=kk.2.2.2;clear kk;go_simp;try (with_reducible rfl))
 refine Late.tk 13 ?_ ?_ hH ?_ (hw:=by kernel_rfl);rotate_left;focus (intro wy hSw;(try dsimp only at hSw);have kk:=HC.out wy hSw;have k0:=kk.1;have k1:=kk.2.1;have k2:=kk.2.2.1;have k3:=kk.2.2.2;clear kk;go_simp;try (with_reducible rfl))
 refine Late.tk 14 ?_ ?_ hH ?_ (hw:=by kernel_rfl);rotate_left;focus (intro wy hSw;(try dsimp only at hSw);have kk:=HC.out wy hSw;have k0:=kk.1;have k1:=kk.2.1;have k2:=kk.2.2.1;have k3:=kk.2.2.2;clear kk;go_simp;try (with_reducible rfl))
 refine Late.tk 15 ?_ ?_ hH ?_ (hw:=by kernel_rfl);rotate_left;focus (intro wy hSw;(try dsimp only at hSw);have kk:=HC.out wy hSw;have k0:=kk.1;have k1:=kk.2.1;have k2:=kk.2.2.1;have k3:=kk.2.2.2;clear kk;go_simp;try (with_reducible rfl))
 refine Late.tk 16 ?_ ?_ hH ?_ (hw:=by kernel_rfl);rotate_left;focus (intro wy hSw;(try dsimp only at hSw);have kk:=HC.out wy hSw;have k0:=kk.1;have k1:=kk.2.1;have k2:=kk.2.2.1;have k3:=kk.2.2.2;clear kk;go_simp;try (with_reducible rfl))
 refine Late.tk 17 ?_ ?_ hH ?_ (hw:=by kernel_rfl);rotate_left;focus (intro wy hSw;(try dsimp only at hSw);have kk:=HC.out wy hSw;have k0:=kk.1;have k1:=kk.2.1;have k2:=kk.2.2.1;have k3:=kk.2.2.2;clear kk;go_simp;try (with_reducible rfl))
 refine Late.tk 18 ?_ ?_ hH ?_ (hw:=by kernel_rfl);rotate_left;focus (intro wy hSw;(try dsimp only at hSw);have kk:=HC.out wy hSw;have k0:=kk.1;have k1:=kk.2.1;have k2:=kk.2.2.1;have k3:=kk.2.2.2;clear kk;go_simp;try (with_reducible rfl))
 refine Late.tk 19 ?_ ?_ hH ?_ (hw:=by kernel_rfl);rotate_left;focus (intro wy hSw;(try dsimp only at hSw);have kk:=HC.out wy hSw;have k0:=kk.1;have k1:=kk.2.1;have k2:=kk.2.2.1;have k3:=kk.2.2.2;clear kk;go_simp;try (with_reducible rfl))
 refine Late.tk 20 ?_ ?_ hH ?_ (hw:=by kernel_rfl);rotate_left;focus (intro wy hSw;(try dsimp only at hSw);have kk:=HC.out wy hSw;have k0:=kk.1;have k1:=kk.2.1;have k2:=kk.2.2.1;have k3:=kk.2.2.2;clear kk;go_simp;try (with_reducible rfl))
 try simp only [Act.put,List.setIfInBounds_toArray,List.set_cons_zero,List.set_cons_succ]
 refine Late.Goes.done (by kernel_rfl) ?_ _
 have HX1:=Lib.hid (And.intro (HX.out.1.but HV1.out (fun h=>h)) (HX.out.2.but HV1.out (fun h=>h)))
 have HM1:=Lib.hid (HBM.out _ HV1.out)
 have HS1:=Lib.hid (Step.of_new (s:=s) (HB0.out.trans HV1.out (fun _ _ h=>h)))
 have c0:w1.cell? ⟨b4,0,none⟩=some (.int .i64 4):=by
  have h:w1.cell? ⟨b4,0,none⟩=some (.int .i64 r.kind):=HX1.out.1.cell 0
  rw [HK.out] at h
  exact h
 clear n1 n2 HXR HC HBM HV1 HV hH
 have HE:=Lib.hid (show r.key.size≤200 from by
  have hf:=HOW.out.1.2.2.2.2.2.2
  unfold Rec.fits at hf
  rw [if_neg (by rw [HK.out];decide),if_neg (by rw [HK.out];decide),if_pos HK.out] at hf
  unfold Rec.keyMay at hf
  omega)
 have c10:w1.cell? ⟨b4,10,none⟩=some (.string r.key):=HX1.out.1.cell 10
 go_wp2_with fail
 refine (take_any HM1.out HO.out.bytes HO.out.okt r.key HE.out hi).mono ?_
 rintro e w2 ⟨rfl,hm2,hs2⟩
 have hnb:=HM1.out.no HX1.out.1 (by decide)
 have HX2:=Lib.hid (HX1.out.1.but hs2.but hnb)
 have HM2:=Lib.hid (hm2.more hi)
 have HO2:=Lib.hid (HO.out.del HM1.out.key.good r.key).more
 have HS2:=Lib.hid (HS1.out.trans hs2)
 have HP2:=Lib.hid (show s.p=s.p from rfl)
 clear hm2 hs2 hnb c0 c10
 have HC1:=Lib.hid (fun V (hV:But (fun _=>False) w2 V)=>show V.cell? ⟨s.p,5,none⟩=some (.int .u64 (B.seq:Int))∧V.cell? ⟨b4,12,none⟩=some (.int .u64 (r.version:Int))∧V.frozen? ⟨s.p,5,none⟩=false from ⟨by
   have:=(HM2.out.new hV).cell 5
   (try rw [HP2.out] at this)
   exact this,(HX2.out.but hV (fun h=>h)).cell 12,by
   have:=(HM2.out.new hV).blk.frozen 5
   (try rw [HP2.out] at this)
   exact this⟩)
 go_wp2_with fail
 refine Late.region_goes (fun V=>But (fun _=>False) w2 V) (fun j=>j == 10) (by kernel_rfl) ?_ (fun hH=>?_)
 ·exact (But.refl _ w2).drew
 refine Late.tk 0 ?_ ?_ hH ?_;rotate_left 2
 refine Late.tk 1 ?_ ?_ hH ?_;rotate_left 2
 refine Late.tk 2 ?_ ?_ hH ?_;rotate_left 2
 refine Late.tk 3 ?_ ?_ hH ?_;rotate_left 2
 refine Late.tk 4 ?_ ?_ hH ?_;rotate_left 2
 refine Late.tk 5 ?_ ?_ hH ?_;rotate_left 2
 refine Late.tk 6 ?_ ?_ hH ?_;rotate_left 2
 rotate_left
 any_goals (intro wy hSw;(try dsimp only at hSw);have k0:=(HC1.out wy hSw).1;have k1:=(HC1.out wy hSw).2.1;go_simp;try (with_reducible rfl))
 try simp only [Act.put,List.setIfInBounds_toArray,List.set_cons_zero,List.set_cons_succ]
 have HVQ:=Lib.hid hH
 refine Late.Goes.one (i:=7) (by kernel_rfl) (by simp only [List.getElem?_toArray,List.getElem?_cons_succ,List.getElem?_cons_zero];rfl) (fun K hK=>?_)
 clear hH
 go_simp
 go_at_call 30
 refine (behind64 B.seq r.version HO.out.seq HIS.out.version _).mono ?_
 rintro e wq ⟨rfl,hwq⟩
 have HBQ:=Lib.hid (show But (fun _=>False) w2 wq from by rw [← hwq];exact HVQ.out)
 clear hwq
 refine hK.out _ _ ?_ (fun hH=>?_)
 ·exact fun _=>HBQ.out
 clear hK K
 have hH:=hH rfl
 try simp only [Act.put,List.setIfInBounds_toArray,List.set_cons_zero,List.set_cons_succ]
 refine Late.tk 8 ?_ ?_ hH ?_;rotate_left 2
 refine Late.tk 9 ?_ ?_ hH ?_;rotate_left 2
 rotate_left
 any_goals (intro wy hSw;(try dsimp only at hSw);have k0:=(HC1.out wy hSw).1;have k1:=(HC1.out wy hSw).2.1;go_simp;try (with_reducible rfl))
 try simp only [Act.put,List.setIfInBounds_toArray,List.set_cons_zero,List.set_cons_succ]
 have k9:=(HC1.out wq HBQ.out).1
 have f9:=(HC1.out wq HBQ.out).2.2
 refine Late.Goes.one (i:=10) (by kernel_rfl) (by simp only [List.getElem?_toArray,List.getElem?_cons_succ,List.getElem?_cons_zero];rfl) (fun K hK=>?_)
 clear hH
 go_simp
 clear k9 f9
 have HF1:=Lib.hid ((HM2.out.new HBQ.out).step_cell 5 (.int .u64 ((b64 B.seq r.version:Nat):Int)) (B':={ { B with bytes:=tot (all (Key.del T r.key)) } with seq:=b64 B.seq r.version }) rfl rfl)
 (try rw [HP2.out] at HF1)
 have HXz:=Lib.hid ((HX2.out.but HBQ.out (fun h=>h)).but ((But.refl (fun k=>k=s.p) wq).setCell (p:=⟨s.p,5,none⟩) rfl (.int .u64 ((b64 B.seq r.version:Nat):Int))) (fun e=>HM2.out.no HX2.out (by decide) (.inl (by first|exact e|exact e.trans HP2.out.symm))))
 generalize wq.setCell ⟨s.p,5,none⟩ (.int .u64 ((b64 B.seq r.version:Nat):Int))=wz at HF1 HXz ⊢
 have HMz:=Lib.hid HF1.out.1
 have HSz:=Lib.hid (HS2.out.trans ((Step.of_new HBQ.out).trans HF1.out.2))
 have HPz:=HP2
 refine hK.out _ _ ?_ (fun _=>?_)
 ·exact fun h=>by cases h
 clear hK K
 try simp only [Act.put,List.setIfInBounds_toArray,List.set_cons_zero,List.set_cons_succ]
 refine Late.Goes.done (by kernel_rfl) ?_ _
 obtain ⟨c,hc⟩:∃ c,c=Rec.costOf r:=⟨_,rfl⟩
 have HCC:=Lib.hid hc
 have HCB:=Lib.hid (show 14≤c∧c≤1098 from by rw [hc];exact HCO.out)
 clear hc
 obtain ⟨z,hz⟩:∃ z,z=B.charged:=⟨_,rfl⟩
 have HZZ:=Lib.hid hz
 have HZB:=Lib.hid (show 0≤z∧z≤2000 * (i:Int)∧i≤399∧14≤c∧c≤1098 from ⟨by rw [hz];exact HO.out.charged.1,by rw [hz];exact HO.out.charged.2,by omega,HCB.out.1,HCB.out.2⟩)
 clear hz
 have HZ:=Lib.hid (show some (Value.int .i64 B.charged)=some (.int .i64 z) from by rw [HZZ.out])
 obtain ⟨Bch,hBch⟩:∃ b:Bk,b={ B with bytes:=tot (all (Key.del T r.key)),seq:=b64 B.seq r.version,charged:=z+c }:=⟨_,rfl⟩
 have HBC:=Lib.hid (show (bcells { B with bytes:=tot (all (Key.del T r.key)),seq:=b64 B.seq r.version } s).setIfInBounds 11 (.int .i64 (z+c))=bcells Bch s from by rw [hBch];rfl)
 have HOz:=Lib.hid (show Ok Bch (Key.del T r.key) m (i+1) from by
  rw [hBch]
  exact HO2.out.with (b64 B.seq r.version) B.serial (z+c) B.toks (by have:=bump_le (top:=18446744073709551615) (c:=B.seq) (n:=r.version) (by have:=HO.out.seq;omega);unfold b64;omega) HO.out.serial (by have:=HZB.out;omega) B.q1 B.q2 B.q3)
 have HEND:=Lib.hid (show app B T r p=Bch∧appT B T r p=(Key.del T r.key) from by
  have ht:told B r=true:=by unfold told;rw [decide_eq_true HOW.out,HK.out];rfl
  unfold app appT madeT made
  rw [ht,HK.out,hBch,HZZ.out,HCC.out]
  exact ⟨rfl,rfl⟩)
 have hBt:Bch.toks={ B with bytes:=tot (all (Key.del T r.key)),seq:=b64 B.seq r.version }.toks:=by rw [hBch]
 clear hBch
 have HCZ:=Lib.hid (fun V (hV:But (fun _=>False) wz V)=>show V.cell? ⟨s.p,11,none⟩=some (.int .i64 z) from by
  have:=(HMz.out.new hV).cell 11
  (try rw [HPz.out] at this)
  exact this.trans HZ.out)
 have HRZ:=Lib.hid (fun V (hV:But (fun _=>False) wz V)=>show V.rangeAt b4 0 (rcs r) from blk_range0 (A:=[]) (B:=rcs r) (HXz.out.but hV (fun h=>h)))
 have ww:IntKind.i64.wrap (z+c)=z+c:=IntWalk.i64_in _ (by have:=HZB.out;omega)
 go_wp2_with fail
 refine Late.region_goes (fun V=>But (fun _=>False) wz V) (fun j=>j == 9) (by kernel_rfl) ?_ (fun hH=>?_)
 ·exact (But.refl _ wz).drew
 refine Late.tk 0 ?_ ?_ hH ?_;rotate_left 2
 refine Late.tk 1 ?_ ?_ hH ?_;rotate_left 2
 refine Late.tk 2 ?_ ?_ hH ?_;rotate_left 2
 refine Late.tk 3 ?_ ?_ hH ?_;rotate_left 2
 rotate_left
 any_goals (intro wy hSw;(try dsimp only at hSw);have k0:=HCZ.out wy hSw;go_simp;try (with_reducible rfl))
 try simp only [Act.put,List.setIfInBounds_toArray,List.set_cons_zero,List.set_cons_succ]
 refine Late.Goes.takeT (i:=4) (v:=_) (by simp only [List.getElem?_toArray,List.getElem?_cons_succ,List.getElem?_cons_zero];rfl) (by kernel_rfl) (by kernel_rfl) (by kernel_rfl) (by kernel_rfl) (by kernel_rfl) (by exact fun _ _ _ h=>h) (yields_rec (by rfl) _ rfl b4 0 rfl r (fun V hV=>HRZ.out V hV)) hH ?_
 try simp only [Act.put,List.setIfInBounds_toArray,List.set_cons_zero,List.set_cons_succ]
 have HVz:=Lib.hid hH
 refine Late.Goes.one (i:=5) (by kernel_rfl) (by simp only [List.getElem?_toArray,List.getElem?_cons_succ,List.getElem?_cons_zero];rfl) (fun K hK=>?_)
 clear hH
 go_simp
 go_at_call 34
 refine (Rec.cost_any r HIS.out _).mono ?_
 rintro e wy ⟨rfl,hbe⟩
 rw [← HCC.out]
 have HVy:=Lib.hid (HVz.out.trans (But.of_new hbe:But (fun _=>False) _ _) (fun _ _ h=>h))
 clear hbe
 refine hK.out _ _ ?_ (fun hH=>?_)
 ·exact fun _=>HVy.out
 clear hK K
 have hH:=hH rfl
 try simp only [Act.put,List.setIfInBounds_toArray,List.set_cons_zero,List.set_cons_succ]
 refine Late.tk 6 ?_ ?_ hH ?_;rotate_left 2
 refine Late.tk 7 ?_ ?_ hH ?_;rotate_left 2
 refine Late.tk 8 ?_ ?_ hH ?_;rotate_left 2
 rotate_left
 any_goals (intro wy hSw;(try dsimp only at hSw);have k0:=HCZ.out wy hSw;go_simp;try (with_reducible rfl))
 try simp only [Act.put,List.setIfInBounds_toArray,List.set_cons_zero,List.set_cons_succ]
 have f9:wy.frozen? ⟨s.p,11,none⟩=false:=by have:=(HMz.out.new HVy.out).blk.frozen 11;(try rw [HPz.out] at this);exact this
 have k9:=HCZ.out _ HVy.out
 refine Late.Goes.one (i:=9) (by kernel_rfl) (by simp only [List.getElem?_toArray,List.getElem?_cons_succ,List.getElem?_cons_zero];rfl) (fun K hK=>?_)
 clear hH
 go_simp
 clear k9 f9
 have HF:=Lib.hid ((HMz.out.new HVy.out).step_cell 11 (.int .i64 (z+c)) (B':=Bch) HBC.out hBt)
 (try rw [HPz.out] at HF)
 generalize wy.setCell ⟨s.p,11,none⟩ (.int .i64 (z+c))=wx at HF ⊢
 refine hK.out _ _ ?_ (fun _=>?_)
 ·exact fun h=>by cases h
 clear hK K
 try simp only [Act.put,List.setIfInBounds_toArray,List.set_cons_zero,List.set_cons_succ]
 refine Late.Goes.done (by kernel_rfl) ?_ _
 go_wp2_with fail
 have hst:=stale_any HF.out.1 HOz.out
 (try rw [HPz.out] at hst)
 refine hst.mono ?_
 rintro e wv ⟨rfl,hmade⟩
 have HE:=Lib.hid (Made.trans (HSz.out.trans ((Step.of_new HVy.out).trans HF.out.2)) hmade)
 clear hmade hst
 go_wp2_with fail
 go_ret
 rw [HEND.out.1,HEND.out.2]
 exact ⟨rfl,HE.out⟩
theorem apply_full (h:BM w s B T m i) (o:Ok B T m i) (hi:i+1≤400) (r:Rcd) (hr:Rec.Is r) (p:Spt) (hp:SpOk p) (hown:Own B r) (hk:r.kind=5) (hpe:Rgt.putErr r.serial r.rights B.toks≠0) :
  Calls Tryz.prog 9 #[.pointer (some ⟨s.p,0,none⟩),Rec.rv r,spV p] w fun e w'=>e = .returned (.bool false)∧Made w s (app B T r p) (appT B T r p) (i+1) w':=by
 have HPE:=Lib.hid hpe
 have HTL:=Lib.hid (show told B r=false from by unfold told;rw [decide_eq_true hown,hk,decide_eq_false hpe];rfl)
 clear hpe
 have n1:(r.bucket != B.id)=false:=by simpa using hown.2.1
 have n2:((r.gen:Int) != (B.gen:Int))=false:=by have:=hown.2.2;simp;omega
 have HOW:=Lib.hid hown
 have HK:=Lib.hid hk
 clear hk
 have HCO:=Lib.hid (cost_le hown.1)
 clear hown
 have HX:=Lib.hid (Blk.two w (Rec.cells r) (spB p) 35 37)
 have HB0:=Lib.hid (((But.refl (fun _=>False) w).alloc (.cells (Rec.cells r) 35)).alloc (.cells (spB p) 37))
 have HH:=Lib.hid h
 have HO:=Lib.hid o
 have HIS:=Lib.hid hr
 have HLT:=Lib.hid h.lt
 have HSP:=Lib.hid hp
 clear h o hr hp
 change Calls _ _ #[.pointer (some ⟨s.p,0,none⟩),.agg #[.int .i64 r.kind,.int .i64 r.bucket,.int .u32 (r.gen:Int),.int .i64 r.keys,.int .i64 r.bytes,.int .i64 r.budget,.int .u64 (r.seq:Int),.int .u32 (r.serial:Int),.int .i64 r.rights,.int .u64 (r.secret:Int),.string r.key,.string r.val,.int .u64 (r.version:Int),.int .u64 (r.expiry:Int)],.agg #[.int .i64 p.1,.int .i64 p.2.1,.int .i64 p.2.2]] w _
 go_enter Tryz.func9,Tryz.ntmps9
 go_wp2_with fail
 obtain ⟨b4,hb4⟩:∃ b,b=w.heap.size:=⟨_,rfl⟩
 change Code.wp _ _ _ _ ((w.alloc (.cells (Rec.cells r) 35)).alloc (.cells (spB p) 37))
 rw [← hb4] at HX
 rw [← hb4]
 generalize (w.alloc (.cells (Rec.cells r) 35)).alloc (.cells (spB p) 37)=W at HX HB0 ⊢
 have HBL:=Lib.hid (show w.heap.size≤b4 from by omega)
 clear hb4
 have HBM:=Lib.hid (fun V (hV:But (fun _=>False) W V)=>HH.out.new (HB0.out.trans hV (fun _ _ h=>h)))
 have HXR:=Lib.hid (fun V (hV:But (fun _=>False) W V)=>show V.rangeAt b4 0 (rcs r) from blk_range0 (A:=[]) (B:=rcs r) (HX.out.1.but hV (fun h=>h)))
 have HC:=Lib.hid (fun V (hV:But (fun _=>False) W V)=>(And.intro (show V.cell? ⟨s.p,0,none⟩=some (.int .i64 B.id) from (HBM.out V hV).cell 0) (And.intro (show V.cell? ⟨s.p,1,none⟩=some (.int .u32 (B.gen:Int)) from (HBM.out V hV).cell 1) (And.intro (show V.cell? ⟨b4,1,none⟩=some (.int .i64 r.bucket) from (HX.out.1.but hV (fun h=>h)).cell 1) (show V.cell? ⟨b4,2,none⟩=some (.int .u32 (r.gen:Int)) from (HX.out.1.but hV (fun h=>h)).cell 2)))))
 refine Late.region_goes (fun V=>But (fun _=>False) W V) (fun _=>false) (by kernel_rfl) ?_ (fun hH=>?_)
 ·exact (But.refl _ W).drew
 refine Late.Goes.takeT (i:=0) (v:=_) (by simp only [List.getElem?_toArray,List.getElem?_cons_succ,List.getElem?_cons_zero];rfl) (by kernel_rfl) (by kernel_rfl) (by kernel_rfl) (by kernel_rfl) (by kernel_rfl) (by exact fun _ _ _ h=>h) (yields_rec (by rfl) _ rfl b4 0 rfl r (fun V hV=>HXR.out V hV)) hH ?_
 try simp only [Act.put,List.setIfInBounds_toArray,List.set_cons_zero,List.set_cons_succ]
 have HV:=Lib.hid hH
 refine Late.Goes.one (i:=1) (by kernel_rfl) (by simp only [List.getElem?_toArray,List.getElem?_cons_succ,List.getElem?_cons_zero];rfl) (fun K hK=>?_)
 clear hH
 go_simp
 go_at_call 28
 refine (Rec.may_any r _).mono ?_
 rintro e w1 ⟨rfl,hbe⟩
 have HV1:=Lib.hid (HV.out.trans (But.of_new hbe:But (fun _=>False) _ _) (fun _ _ h=>h))
 clear hbe
 rw [decide_eq_true HOW.out.1]
 simp only [Bool.not_true,Bool.not_false]
 refine hK.out _ _ ?_ (fun hH=>?_)
 ·exact fun _=>HV1.out
 clear hK K
 have hH:=hH rfl
 try simp only [Act.put,List.setIfInBounds_toArray,List.set_cons_zero,List.set_cons_succ]
 refine Late.tk 2 ?_ ?_ hH ?_ (hw:=by kernel_rfl);rotate_left;focus (intro wy hSw;(try dsimp only at hSw);have kk:=HC.out wy hSw;have k0:=kk.1;have k1:=kk.2.1;have k2:=kk.2.2.1;have k3:=kk.2.2.2;clear kk;go_simp;try (with_reducible rfl))
 refine Late.tk 3 ?_ ?_ hH ?_ (hw:=by kernel_rfl);rotate_left;focus (intro wy hSw;(try dsimp only at hSw);have kk:=HC.out wy hSw;have k0:=kk.1;have k1:=kk.2.1;have k2:=kk.2.2.1;have k3:=kk.2.2.2;clear kk;go_simp;try (with_reducible rfl))
 refine Late.tk 4 ?_ ?_ hH ?_ (hw:=by kernel_rfl);rotate_left;focus (intro wy hSw;(try dsimp only at hSw);have kk:=HC.out wy hSw;have k0:=kk.1;have k1:=kk.2.1;have k2:=kk.2.2.1;have k3:=kk.2.2.2;clear kk;go_simp;try (with_reducible rfl))
 refine Late.tk 5 ?_ ?_ hH ?_ (hw:=by kernel_rfl);rotate_left;focus (intro wy hSw;(try dsimp only at hSw);have kk:=HC.out wy hSw;have k0:=kk.1;have k1:=kk.2.1;have k2:=kk.2.2.1;have k3:=kk.2.2.2;clear kk;go_simp;try (with_reducible rfl))
 refine Late.tk 6 ?_ ?_ hH ?_ (hw:=by kernel_rfl);rotate_left;focus (intro wy hSw;(try dsimp only at hSw);have kk:=HC.out wy hSw;have k0:=kk.1;have k1:=kk.2.1;have k2:=kk.2.2.1;have k3:=kk.2.2.2;clear kk;go_simp;try (with_reducible rfl))
 refine Late.tk 7 ?_ ?_ hH ?_ (hw:=by kernel_rfl);rotate_left;focus (intro wy hSw;(try dsimp only at hSw);have kk:=HC.out wy hSw;have k0:=kk.1;have k1:=kk.2.1;have k2:=kk.2.2.1;have k3:=kk.2.2.2;clear kk;go_simp;try (with_reducible rfl))
 refine Late.tk 8 ?_ ?_ hH ?_ (hw:=by kernel_rfl);rotate_left;focus (intro wy hSw;(try dsimp only at hSw);have kk:=HC.out wy hSw;have k0:=kk.1;have k1:=kk.2.1;have k2:=kk.2.2.1;have k3:=kk.2.2.2;clear kk;go_simp;try (with_reducible rfl))
 refine Late.tk 9 ?_ ?_ hH ?_ (hw:=by kernel_rfl);rotate_left;focus (intro wy hSw;(try dsimp only at hSw);have kk:=HC.out wy hSw;have k0:=kk.1;have k1:=kk.2.1;have k2:=kk.2.2.1;have k3:=kk.2.2.2;clear kk;go_simp;try (with_reducible rfl))
 refine Late.tk 10 ?_ ?_ hH ?_ (hw:=by kernel_rfl);rotate_left;focus (intro wy hSw;(try dsimp only at hSw);have kk:=HC.out wy hSw;have k0:=kk.1;have k1:=kk.2.1;have k2:=kk.2.2.1;have k3:=kk.2.2.2;clear kk;go_simp;try (with_reducible rfl))
 refine Late.tk 11 ?_ ?_ hH ?_ (hw:=by kernel_rfl);rotate_left;focus (intro wy hSw;(try dsimp only at hSw);have kk:=HC.out wy hSw;have k0:=kk.1;have k1:=kk.2.1;have k2:=kk.2.2.1;have k3:=kk.2.2.2;clear kk;go_simp;try (with_reducible rfl))
 refine Late.tk 12 ?_ ?_ hH ?_ (hw:=by kernel_rfl);rotate_left;focus (intro wy hSw;(try dsimp only at hSw);have kk:=HC.out wy hSw;have k0:=kk.1;have k1:=kk.2.1;have k2:=kk.2.2.1;have k3:=kk.2.2.2;clear kk;go_simp;try (with_reducible rfl))
 refine Late.tk 13 ?_ ?_ hH ?_ (hw:=by kernel_rfl);rotate_left;focus (intro wy hSw;(try dsimp only at hSw);have kk:=HC.out wy hSw;have k0:=kk.1;have k1:=kk.2.1;have k2:=kk.2.2.1;have k3:=kk.2.2.2;clear kk;go_simp;try (with_reducible rfl))
 refine Late.tk 14 ?_ ?_ hH ?_ (hw:=by kernel_rfl);rotate_left;focus (intro wy hSw;(try dsimp only at hSw);have kk:=HC.out wy hSw;have k0:=kk.1;have k1:=kk.2.1;have k2:=kk.2.2.1;have k3:=kk.2.2.2;clear kk;go_simp;try (with_reducible rfl))
 refine Late.tk 15 ?_ ?_ hH ?_ (hw:=by kernel_rfl);rotate_left;focus (intro wy hSw;(try dsimp only at hSw);have kk:=HC.out wy hSw;have k0:=kk.1;have k1:=kk.2.1;have k2:=kk.2.2.1;have k3:=kk.2.2.2;clear kk;go_simp;try (with_reducible rfl))
 refine Late.tk 16 ?_ ?_ hH ?_ (hw:=by kernel_rfl);rotate_left;focus (intro wy hSw;(try dsimp only at hSw);have kk:=HC.out wy hSw;have k0:=kk.1;have k1:=kk.2.1;have k2:=kk.2.2.1;have k3:=kk.2.2.2;clear kk;go_simp;try (with_reducible rfl))
 refine Late.tk 17 ?_ ?_ hH ?_ (hw:=by kernel_rfl);rotate_left;focus (intro wy hSw;(try dsimp only at hSw);have kk:=HC.out wy hSw;have k0:=kk.1;have k1:=kk.2.1;have k2:=kk.2.2.1;have k3:=kk.2.2.2;clear kk;go_simp;try (with_reducible rfl))
 refine Late.tk 18 ?_ ?_ hH ?_ (hw:=by kernel_rfl);rotate_left;focus (intro wy hSw;(try dsimp only at hSw);have kk:=HC.out wy hSw;have k0:=kk.1;have k1:=kk.2.1;have k2:=kk.2.2.1;have k3:=kk.2.2.2;clear kk;go_simp;try (with_reducible rfl))
 refine Late.tk 19 ?_ ?_ hH ?_ (hw:=by kernel_rfl);rotate_left;focus (intro wy hSw;(try dsimp only at hSw);have kk:=HC.out wy hSw;have k0:=kk.1;have k1:=kk.2.1;have k2:=kk.2.2.1;have k3:=kk.2.2.2;clear kk;go_simp;try (with_reducible rfl))
 refine Late.tk 20 ?_ ?_ hH ?_ (hw:=by kernel_rfl);rotate_left;focus (intro wy hSw;(try dsimp only at hSw);have kk:=HC.out wy hSw;have k0:=kk.1;have k1:=kk.2.1;have k2:=kk.2.2.1;have k3:=kk.2.2.2;clear kk;go_simp;try (with_reducible rfl))
 try simp only [Act.put,List.setIfInBounds_toArray,List.set_cons_zero,List.set_cons_succ]
 refine Late.Goes.done (by kernel_rfl) ?_ _
 have HX1:=Lib.hid (And.intro (HX.out.1.but HV1.out (fun h=>h)) (HX.out.2.but HV1.out (fun h=>h)))
 have HM1:=Lib.hid (HBM.out _ HV1.out)
 have HS1:=Lib.hid (Step.of_new (s:=s) (HB0.out.trans HV1.out (fun _ _ h=>h)))
 have c0:w1.cell? ⟨b4,0,none⟩=some (.int .i64 5):=by
  have h:w1.cell? ⟨b4,0,none⟩=some (.int .i64 r.kind):=HX1.out.1.cell 0
  rw [HK.out] at h
  exact h
 clear n1 n2 HXR HC HBM HV1 HV hH
 have HK5:=Lib.hid (show w1.drew.cell? ⟨s.p,9,none⟩=some (.pointer (some ⟨s.tp,0,none⟩))∧w1.drew.cell? ⟨b4,7,none⟩=some (.int .u32 (r.serial:Int))∧w1.drew.cell? ⟨b4,8,none⟩=some (.int .i64 r.rights)∧w1.drew.cell? ⟨b4,9,none⟩=some (.int .u64 (r.secret:Int)) from ⟨HM1.out.cell 9,HX1.out.1.cell 7,HX1.out.1.cell 8,HX1.out.1.cell 9⟩)
 have HM1D:=Lib.hid (HM1.out.new ((But.refl (fun _=>False) w1).drew))
 have HRP:=Lib.hid (Rgt.rgt_put HM1D.out.tok (s:=r.serial) (k:=r.secret) HIS.out.serial HIS.out.secret r.rights)
 obtain ⟨ec,hec⟩:∃ c,c=Rgt.putErr r.serial r.rights B.toks:=⟨_,rfl⟩
 rw [← hec,Err.errV_some (by rw [hec];exact HPE.out)] at HRP
 have HEC:=Lib.hid hec
 clear hec
 go_wp2_with fail
 refine Late.region_goes (fun V=>V=w1.drew) (fun j=>Nat.ble 10 j) (by kernel_rfl) ?_ (fun hH=>?_)
 ·rfl
 refine Late.tk 0 ?_ ?_ hH ?_;rotate_left 2
 refine Late.tk 1 ?_ ?_ hH ?_;rotate_left 2
 refine Late.tk 2 ?_ ?_ hH ?_;rotate_left 2
 refine Late.tk 3 ?_ ?_ hH ?_;rotate_left 2
 refine Late.tk 4 ?_ ?_ hH ?_;rotate_left 2
 refine Late.tk 5 ?_ ?_ hH ?_;rotate_left 2
 refine Late.tk 6 ?_ ?_ hH ?_;rotate_left 2
 refine Late.tk 7 ?_ ?_ hH ?_;rotate_left 2
 refine Late.tk 8 ?_ ?_ hH ?_;rotate_left 2
 refine Late.tk 9 ?_ ?_ hH ?_;rotate_left 2
 rotate_left
 any_goals (intro wy hSw;(try dsimp only at hSw);subst hSw;have k0:=HK5.out.1;have k1:=HK5.out.2.1;have k2:=HK5.out.2.2.1;have k3:=HK5.out.2.2.2;go_simp;try (with_reducible rfl))
 try simp only [Act.put,List.setIfInBounds_toArray,List.set_cons_zero,List.set_cons_succ]
 refine Late.Goes.one (i:=10) (by kernel_rfl) (by simp only [List.getElem?_toArray,List.getElem?_cons_succ,List.getElem?_cons_zero];rfl) (fun K hK=>?_)
 clear hH
 go_simp
 go_at_call 31
 refine HRP.out.mono ?_
 rintro e w2 ⟨rfl,ht2,hb2⟩
 have HT2:=Lib.hid (And.intro ht2 hb2)
 clear ht2 hb2
 refine hK.out _ _ ?_ (fun _=>?_)
 ·exact fun h=>by cases h
 clear hK K
 try simp only [Act.put,List.setIfInBounds_toArray,List.set_cons_zero,List.set_cons_succ]
 have hH:True:=trivial
 refine Late.Goes.one (i:=11) (by kernel_rfl) (by simp only [List.getElem?_toArray,List.getElem?_cons_succ,List.getElem?_cons_zero];rfl) (fun K hK=>?_)
 clear hH
 go_simp
 refine hK.out _ _ ?_ (fun _=>?_)
 ·exact fun h=>by cases h
 clear hK K
 try simp only [Act.put,List.setIfInBounds_toArray,List.set_cons_zero,List.set_cons_succ]
 refine Late.Goes.done (by kernel_rfl) ?_ _
 have HM2:=Lib.hid (HM1D.out.step_tok (ts:=B.toks) (by
  have h:=HT2.out.1
  unfold Rgt.putTo at h
  rw [if_neg (by show ¬ Rgt.putErr r.serial r.rights B.toks=0;exact HPE.out)] at h
  exact h) HT2.out.2)
 go_wp2_with fail
 go_ret
 unfold app appT
 rw [HTL.out]
 exact ⟨rfl,s,m,HM2.out.1.more hi,HO.out.more,HS1.out.trans ((Step.of_new ((But.refl (fun _=>False) w1).drew)).trans HM2.out.2)⟩
theorem apply_tok (h:BM w s B T m i) (o:Ok B T m i) (hi:i+1≤400) (r:Rcd) (hr:Rec.Is r) (p:Spt) (hp:SpOk p) (hown:Own B r) (hk:r.kind=5) (hpe:Rgt.putErr r.serial r.rights B.toks=0) :
  Calls Tryz.prog 9 #[.pointer (some ⟨s.p,0,none⟩),Rec.rv r,spV p] w fun e w'=>e = .returned (.bool true)∧Made w s (app B T r p) (appT B T r p) (i+1) w':=by
 have HPE:=Lib.hid hpe
 clear hpe
 have n1:(r.bucket != B.id)=false:=by simpa using hown.2.1
 have n2:((r.gen:Int) != (B.gen:Int))=false:=by have:=hown.2.2;simp;omega
 have HOW:=Lib.hid hown
 have HK:=Lib.hid hk
 clear hk
 have HCO:=Lib.hid (cost_le hown.1)
 clear hown
 have HX:=Lib.hid (Blk.two w (Rec.cells r) (spB p) 35 37)
 have HB0:=Lib.hid (((But.refl (fun _=>False) w).alloc (.cells (Rec.cells r) 35)).alloc (.cells (spB p) 37))
 have HH:=Lib.hid h
 have HO:=Lib.hid o
 have HIS:=Lib.hid hr
 have HLT:=Lib.hid h.lt
 have HSP:=Lib.hid hp
 clear h o hr hp
 change Calls _ _ #[.pointer (some ⟨s.p,0,none⟩),.agg #[.int .i64 r.kind,.int .i64 r.bucket,.int .u32 (r.gen:Int),.int .i64 r.keys,.int .i64 r.bytes,.int .i64 r.budget,.int .u64 (r.seq:Int),.int .u32 (r.serial:Int),.int .i64 r.rights,.int .u64 (r.secret:Int),.string r.key,.string r.val,.int .u64 (r.version:Int),.int .u64 (r.expiry:Int)],.agg #[.int .i64 p.1,.int .i64 p.2.1,.int .i64 p.2.2]] w _
 go_enter Tryz.func9,Tryz.ntmps9
 go_wp2_with fail
 obtain ⟨b4,hb4⟩:∃ b,b=w.heap.size:=⟨_,rfl⟩
 change Code.wp _ _ _ _ ((w.alloc (.cells (Rec.cells r) 35)).alloc (.cells (spB p) 37))
 rw [← hb4] at HX
 rw [← hb4]
 generalize (w.alloc (.cells (Rec.cells r) 35)).alloc (.cells (spB p) 37)=W at HX HB0 ⊢
 have HBL:=Lib.hid (show w.heap.size≤b4 from by omega)
 clear hb4
 have HBM:=Lib.hid (fun V (hV:But (fun _=>False) W V)=>HH.out.new (HB0.out.trans hV (fun _ _ h=>h)))
 have HXR:=Lib.hid (fun V (hV:But (fun _=>False) W V)=>show V.rangeAt b4 0 (rcs r) from blk_range0 (A:=[]) (B:=rcs r) (HX.out.1.but hV (fun h=>h)))
 have HC:=Lib.hid (fun V (hV:But (fun _=>False) W V)=>(And.intro (show V.cell? ⟨s.p,0,none⟩=some (.int .i64 B.id) from (HBM.out V hV).cell 0) (And.intro (show V.cell? ⟨s.p,1,none⟩=some (.int .u32 (B.gen:Int)) from (HBM.out V hV).cell 1) (And.intro (show V.cell? ⟨b4,1,none⟩=some (.int .i64 r.bucket) from (HX.out.1.but hV (fun h=>h)).cell 1) (show V.cell? ⟨b4,2,none⟩=some (.int .u32 (r.gen:Int)) from (HX.out.1.but hV (fun h=>h)).cell 2)))))
 refine Late.region_goes (fun V=>But (fun _=>False) W V) (fun _=>false) (by kernel_rfl) ?_ (fun hH=>?_)
 ·exact (But.refl _ W).drew
 refine Late.Goes.takeT (i:=0) (v:=_) (by simp only [List.getElem?_toArray,List.getElem?_cons_succ,List.getElem?_cons_zero];rfl) (by kernel_rfl) (by kernel_rfl) (by kernel_rfl) (by kernel_rfl) (by kernel_rfl) (by exact fun _ _ _ h=>h) (yields_rec (by rfl) _ rfl b4 0 rfl r (fun V hV=>HXR.out V hV)) hH ?_
 try simp only [Act.put,List.setIfInBounds_toArray,List.set_cons_zero,List.set_cons_succ]
 have HV:=Lib.hid hH
 refine Late.Goes.one (i:=1) (by kernel_rfl) (by simp only [List.getElem?_toArray,List.getElem?_cons_succ,List.getElem?_cons_zero];rfl) (fun K hK=>?_)
 clear hH
 go_simp
 go_at_call 28
 refine (Rec.may_any r _).mono ?_
 rintro e w1 ⟨rfl,hbe⟩
 have HV1:=Lib.hid (HV.out.trans (But.of_new hbe:But (fun _=>False) _ _) (fun _ _ h=>h))
 clear hbe
 rw [decide_eq_true HOW.out.1]
 simp only [Bool.not_true,Bool.not_false]
 refine hK.out _ _ ?_ (fun hH=>?_)
 ·exact fun _=>HV1.out
 clear hK K
 have hH:=hH rfl
 try simp only [Act.put,List.setIfInBounds_toArray,List.set_cons_zero,List.set_cons_succ]
 refine Late.tk 2 ?_ ?_ hH ?_ (hw:=by kernel_rfl);rotate_left;focus (intro wy hSw;(try dsimp only at hSw);have kk:=HC.out wy hSw;have k0:=kk.1;have k1:=kk.2.1;have k2:=kk.2.2.1;have k3:=kk.2.2.2;clear kk;go_simp;try (with_reducible rfl))
 refine Late.tk 3 ?_ ?_ hH ?_ (hw:=by kernel_rfl);rotate_left;focus (intro wy hSw;(try dsimp only at hSw);have kk:=HC.out wy hSw;have k0:=kk.1;have k1:=kk.2.1;have k2:=kk.2.2.1;have k3:=kk.2.2.2;clear kk;go_simp;try (with_reducible rfl))
 refine Late.tk 4 ?_ ?_ hH ?_ (hw:=by kernel_rfl);rotate_left;focus (intro wy hSw;(try dsimp only at hSw);have kk:=HC.out wy hSw;have k0:=kk.1;have k1:=kk.2.1;have k2:=kk.2.2.1;have k3:=kk.2.2.2;clear kk;go_simp;try (with_reducible rfl))
 refine Late.tk 5 ?_ ?_ hH ?_ (hw:=by kernel_rfl);rotate_left;focus (intro wy hSw;(try dsimp only at hSw);have kk:=HC.out wy hSw;have k0:=kk.1;have k1:=kk.2.1;have k2:=kk.2.2.1;have k3:=kk.2.2.2;clear kk;go_simp;try (with_reducible rfl))
 refine Late.tk 6 ?_ ?_ hH ?_ (hw:=by kernel_rfl);rotate_left;focus (intro wy hSw;(try dsimp only at hSw);have kk:=HC.out wy hSw;have k0:=kk.1;have k1:=kk.2.1;have k2:=kk.2.2.1;have k3:=kk.2.2.2;clear kk;go_simp;try (with_reducible rfl))
 refine Late.tk 7 ?_ ?_ hH ?_ (hw:=by kernel_rfl);rotate_left;focus (intro wy hSw;(try dsimp only at hSw);have kk:=HC.out wy hSw;have k0:=kk.1;have k1:=kk.2.1;have k2:=kk.2.2.1;have k3:=kk.2.2.2;clear kk;go_simp;try (with_reducible rfl))
 refine Late.tk 8 ?_ ?_ hH ?_ (hw:=by kernel_rfl);rotate_left;focus (intro wy hSw;(try dsimp only at hSw);have kk:=HC.out wy hSw;have k0:=kk.1;have k1:=kk.2.1;have k2:=kk.2.2.1;have k3:=kk.2.2.2;clear kk;go_simp;try (with_reducible rfl))
 refine Late.tk 9 ?_ ?_ hH ?_ (hw:=by kernel_rfl);rotate_left;focus (intro wy hSw;(try dsimp only at hSw);have kk:=HC.out wy hSw;have k0:=kk.1;have k1:=kk.2.1;have k2:=kk.2.2.1;have k3:=kk.2.2.2;clear kk;go_simp;try (with_reducible rfl))
 refine Late.tk 10 ?_ ?_ hH ?_ (hw:=by kernel_rfl);rotate_left;focus (intro wy hSw;(try dsimp only at hSw);have kk:=HC.out wy hSw;have k0:=kk.1;have k1:=kk.2.1;have k2:=kk.2.2.1;have k3:=kk.2.2.2;clear kk;go_simp;try (with_reducible rfl))
 refine Late.tk 11 ?_ ?_ hH ?_ (hw:=by kernel_rfl);rotate_left;focus (intro wy hSw;(try dsimp only at hSw);have kk:=HC.out wy hSw;have k0:=kk.1;have k1:=kk.2.1;have k2:=kk.2.2.1;have k3:=kk.2.2.2;clear kk;go_simp;try (with_reducible rfl))
 refine Late.tk 12 ?_ ?_ hH ?_ (hw:=by kernel_rfl);rotate_left;focus (intro wy hSw;(try dsimp only at hSw);have kk:=HC.out wy hSw;have k0:=kk.1;have k1:=kk.2.1;have k2:=kk.2.2.1;have k3:=kk.2.2.2;clear kk;go_simp;try (with_reducible rfl))
 refine Late.tk 13 ?_ ?_ hH ?_ (hw:=by kernel_rfl);rotate_left;focus (intro wy hSw;(try dsimp only at hSw);have kk:=HC.out wy hSw;have k0:=kk.1;have k1:=kk.2.1;have k2:=kk.2.2.1;have k3:=kk.2.2.2;clear kk;go_simp;try (with_reducible rfl))
 refine Late.tk 14 ?_ ?_ hH ?_ (hw:=by kernel_rfl);rotate_left;focus (intro wy hSw;(try dsimp only at hSw);have kk:=HC.out wy hSw;have k0:=kk.1;have k1:=kk.2.1;have k2:=kk.2.2.1;have k3:=kk.2.2.2;clear kk;go_simp;try (with_reducible rfl))
 refine Late.tk 15 ?_ ?_ hH ?_ (hw:=by kernel_rfl);rotate_left;focus (intro wy hSw;(try dsimp only at hSw);have kk:=HC.out wy hSw;have k0:=kk.1;have k1:=kk.2.1;have k2:=kk.2.2.1;have k3:=kk.2.2.2;clear kk;go_simp;try (with_reducible rfl))
 refine Late.tk 16 ?_ ?_ hH ?_ (hw:=by kernel_rfl);rotate_left;focus (intro wy hSw;(try dsimp only at hSw);have kk:=HC.out wy hSw;have k0:=kk.1;have k1:=kk.2.1;have k2:=kk.2.2.1;have k3:=kk.2.2.2;clear kk;go_simp;try (with_reducible rfl))
 refine Late.tk 17 ?_ ?_ hH ?_ (hw:=by kernel_rfl);rotate_left;focus (intro wy hSw;(try dsimp only at hSw);have kk:=HC.out wy hSw;have k0:=kk.1;have k1:=kk.2.1;have k2:=kk.2.2.1;have k3:=kk.2.2.2;clear kk;go_simp;try (with_reducible rfl))
 refine Late.tk 18 ?_ ?_ hH ?_ (hw:=by kernel_rfl);rotate_left;focus (intro wy hSw;(try dsimp only at hSw);have kk:=HC.out wy hSw;have k0:=kk.1;have k1:=kk.2.1;have k2:=kk.2.2.1;have k3:=kk.2.2.2;clear kk;go_simp;try (with_reducible rfl))
 refine Late.tk 19 ?_ ?_ hH ?_ (hw:=by kernel_rfl);rotate_left;focus (intro wy hSw;(try dsimp only at hSw);have kk:=HC.out wy hSw;have k0:=kk.1;have k1:=kk.2.1;have k2:=kk.2.2.1;have k3:=kk.2.2.2;clear kk;go_simp;try (with_reducible rfl))
 refine Late.tk 20 ?_ ?_ hH ?_ (hw:=by kernel_rfl);rotate_left;focus (intro wy hSw;(try dsimp only at hSw);have kk:=HC.out wy hSw;have k0:=kk.1;have k1:=kk.2.1;have k2:=kk.2.2.1;have k3:=kk.2.2.2;clear kk;go_simp;try (with_reducible rfl))
 try simp only [Act.put,List.setIfInBounds_toArray,List.set_cons_zero,List.set_cons_succ]
 refine Late.Goes.done (by kernel_rfl) ?_ _
 have HX1:=Lib.hid (And.intro (HX.out.1.but HV1.out (fun h=>h)) (HX.out.2.but HV1.out (fun h=>h)))
 have HM1:=Lib.hid (HBM.out _ HV1.out)
 have HS1:=Lib.hid (Step.of_new (s:=s) (HB0.out.trans HV1.out (fun _ _ h=>h)))
 have c0:w1.cell? ⟨b4,0,none⟩=some (.int .i64 5):=by
  have h:w1.cell? ⟨b4,0,none⟩=some (.int .i64 r.kind):=HX1.out.1.cell 0
  rw [HK.out] at h
  exact h
 clear n1 n2 HXR HC HBM HV1 HV hH
 have HK5:=Lib.hid (show w1.drew.cell? ⟨s.p,9,none⟩=some (.pointer (some ⟨s.tp,0,none⟩))∧w1.drew.cell? ⟨b4,7,none⟩=some (.int .u32 (r.serial:Int))∧w1.drew.cell? ⟨b4,8,none⟩=some (.int .i64 r.rights)∧w1.drew.cell? ⟨b4,9,none⟩=some (.int .u64 (r.secret:Int)) from ⟨HM1.out.cell 9,HX1.out.1.cell 7,HX1.out.1.cell 8,HX1.out.1.cell 9⟩)
 have HM1D:=Lib.hid (HM1.out.new ((But.refl (fun _=>False) w1).drew))
 have HRP:=Lib.hid (Rgt.rgt_put HM1D.out.tok (s:=r.serial) (k:=r.secret) HIS.out.serial HIS.out.secret r.rights)
 rw [HPE.out,Err.errV_zero] at HRP
 go_wp2_with fail
 refine Late.region_goes (fun V=>V=w1.drew) (fun j=>Nat.ble 10 j) (by kernel_rfl) ?_ (fun hH=>?_)
 ·rfl
 refine Late.tk 0 ?_ ?_ hH ?_;rotate_left 2
 refine Late.tk 1 ?_ ?_ hH ?_;rotate_left 2
 refine Late.tk 2 ?_ ?_ hH ?_;rotate_left 2
 refine Late.tk 3 ?_ ?_ hH ?_;rotate_left 2
 refine Late.tk 4 ?_ ?_ hH ?_;rotate_left 2
 refine Late.tk 5 ?_ ?_ hH ?_;rotate_left 2
 refine Late.tk 6 ?_ ?_ hH ?_;rotate_left 2
 refine Late.tk 7 ?_ ?_ hH ?_;rotate_left 2
 refine Late.tk 8 ?_ ?_ hH ?_;rotate_left 2
 refine Late.tk 9 ?_ ?_ hH ?_;rotate_left 2
 rotate_left
 any_goals (intro wy hSw;(try dsimp only at hSw);subst hSw;have k0:=HK5.out.1;have k1:=HK5.out.2.1;have k2:=HK5.out.2.2.1;have k3:=HK5.out.2.2.2;go_simp;try (with_reducible rfl))
 try simp only [Act.put,List.setIfInBounds_toArray,List.set_cons_zero,List.set_cons_succ]
 refine Late.Goes.one (i:=10) (by kernel_rfl) (by simp only [List.getElem?_toArray,List.getElem?_cons_succ,List.getElem?_cons_zero];rfl) (fun K hK=>?_)
 clear hH
 go_simp
 go_at_call 31
 refine HRP.out.mono ?_
 rintro e w2 ⟨rfl,ht2,hb2⟩
 have HT2:=Lib.hid (And.intro ht2 hb2)
 clear ht2 hb2
 refine hK.out _ _ ?_ (fun _=>?_)
 ·exact fun h=>by cases h
 clear hK K
 try simp only [Act.put,List.setIfInBounds_toArray,List.set_cons_zero,List.set_cons_succ]
 have hH:True:=trivial
 refine Late.Goes.one (i:=11) (by kernel_rfl) (by simp only [List.getElem?_toArray,List.getElem?_cons_succ,List.getElem?_cons_zero];rfl) (fun K hK=>?_)
 clear hH
 go_simp
 refine hK.out _ _ ?_ (fun _=>?_)
 ·exact fun h=>by cases h
 clear hK K
 try simp only [Act.put,List.setIfInBounds_toArray,List.set_cons_zero,List.set_cons_succ]
 refine Late.Goes.done (by kernel_rfl) ?_ _
 have hst2:=HM1D.out.step_tok (ts:=Rgt.put (tokOf r) B.toks) (by
  have h:=HT2.out.1
  unfold Rgt.putTo at h
  rw [if_pos (by show Rgt.putErr r.serial r.rights B.toks=0;exact HPE.out)] at h
  exact h) HT2.out.2
 have hnb:=HM1D.out.no (HX1.out.1.but ((But.refl (fun _=>False) w1).drew) (fun h=>h)) (by decide)
 have HX2:=Lib.hid ((HX1.out.1.but ((But.refl (fun _=>False) w1).drew) (fun h=>h)).but hst2.2.but hnb)
 have HM2:=Lib.hid (hst2.1.more hi)
 have HS2:=Lib.hid (HS1.out.trans ((Step.of_new ((But.refl (fun _=>False) w1).drew)).trans hst2.2))
 have HP2:=Lib.hid (show s.p=s.p from rfl)
 clear hst2 hnb c0
 have HC1:=Lib.hid (fun V (hV:But (fun _=>False) w2 V)=>show V.cell? ⟨s.p,6,none⟩=some (.int .u32 (B.serial:Int))∧V.cell? ⟨b4,7,none⟩=some (.int .u32 (r.serial:Int))∧V.frozen? ⟨s.p,6,none⟩=false from ⟨by
   have:=(HM2.out.new hV).cell 6
   (try rw [HP2.out] at this)
   exact this,(HX2.out.but hV (fun h=>h)).cell 7,by
   have:=(HM2.out.new hV).blk.frozen 6
   (try rw [HP2.out] at this)
   exact this⟩)
 go_wp2_with fail
 refine Late.region_goes (fun V=>But (fun _=>False) w2 V) (fun j=>j == 10) (by kernel_rfl) ?_ (fun hH=>?_)
 ·exact (But.refl _ w2).drew
 refine Late.tk 0 ?_ ?_ hH ?_;rotate_left 2
 refine Late.tk 1 ?_ ?_ hH ?_;rotate_left 2
 refine Late.tk 2 ?_ ?_ hH ?_;rotate_left 2
 refine Late.tk 3 ?_ ?_ hH ?_;rotate_left 2
 refine Late.tk 4 ?_ ?_ hH ?_;rotate_left 2
 refine Late.tk 5 ?_ ?_ hH ?_;rotate_left 2
 refine Late.tk 6 ?_ ?_ hH ?_;rotate_left 2
 rotate_left
 any_goals (intro wy hSw;(try dsimp only at hSw);have k0:=(HC1.out wy hSw).1;have k1:=(HC1.out wy hSw).2.1;go_simp;try (with_reducible rfl))
 try simp only [Act.put,List.setIfInBounds_toArray,List.set_cons_zero,List.set_cons_succ]
 have HVQ:=Lib.hid hH
 refine Late.Goes.one (i:=7) (by kernel_rfl) (by simp only [List.getElem?_toArray,List.getElem?_cons_succ,List.getElem?_cons_zero];rfl) (fun K hK=>?_)
 clear hH
 go_simp
 go_at_call 32
 refine (behind32 B.serial r.serial HO.out.serial HIS.out.serial _).mono ?_
 rintro e wq ⟨rfl,hwq⟩
 have HBQ:=Lib.hid (show But (fun _=>False) w2 wq from by rw [← hwq];exact HVQ.out)
 clear hwq
 refine hK.out _ _ ?_ (fun hH=>?_)
 ·exact fun _=>HBQ.out
 clear hK K
 have hH:=hH rfl
 try simp only [Act.put,List.setIfInBounds_toArray,List.set_cons_zero,List.set_cons_succ]
 refine Late.tk 8 ?_ ?_ hH ?_;rotate_left 2
 refine Late.tk 9 ?_ ?_ hH ?_;rotate_left 2
 rotate_left
 any_goals (intro wy hSw;(try dsimp only at hSw);have k0:=(HC1.out wy hSw).1;have k1:=(HC1.out wy hSw).2.1;go_simp;try (with_reducible rfl))
 try simp only [Act.put,List.setIfInBounds_toArray,List.set_cons_zero,List.set_cons_succ]
 have k9:=(HC1.out wq HBQ.out).1
 have f9:=(HC1.out wq HBQ.out).2.2
 refine Late.Goes.one (i:=10) (by kernel_rfl) (by simp only [List.getElem?_toArray,List.getElem?_cons_succ,List.getElem?_cons_zero];rfl) (fun K hK=>?_)
 clear hH
 go_simp
 clear k9 f9
 have HF1:=Lib.hid ((HM2.out.new HBQ.out).step_cell 6 (.int .u32 ((b32 B.serial r.serial:Nat):Int)) (B':={ { B with toks:=Rgt.put (tokOf r) B.toks } with serial:=b32 B.serial r.serial }) rfl rfl)
 (try rw [HP2.out] at HF1)
 have HXz:=Lib.hid ((HX2.out.but HBQ.out (fun h=>h)).but ((But.refl (fun k=>k=s.p) wq).setCell (p:=⟨s.p,6,none⟩) rfl (.int .u32 ((b32 B.serial r.serial:Nat):Int))) (fun e=>HM2.out.no HX2.out (by decide) (.inl (by first|exact e|exact e.trans HP2.out.symm))))
 generalize wq.setCell ⟨s.p,6,none⟩ (.int .u32 ((b32 B.serial r.serial:Nat):Int))=wz at HF1 HXz ⊢
 have HMz:=Lib.hid HF1.out.1
 have HSz:=Lib.hid (HS2.out.trans ((Step.of_new HBQ.out).trans HF1.out.2))
 have HPz:=HP2
 refine hK.out _ _ ?_ (fun _=>?_)
 ·exact fun h=>by cases h
 clear hK K
 try simp only [Act.put,List.setIfInBounds_toArray,List.set_cons_zero,List.set_cons_succ]
 refine Late.Goes.done (by kernel_rfl) ?_ _
 obtain ⟨c,hc⟩:∃ c,c=Rec.costOf r:=⟨_,rfl⟩
 have HCC:=Lib.hid hc
 have HCB:=Lib.hid (show 14≤c∧c≤1098 from by rw [hc];exact HCO.out)
 clear hc
 obtain ⟨z,hz⟩:∃ z,z=B.charged:=⟨_,rfl⟩
 have HZZ:=Lib.hid hz
 have HZB:=Lib.hid (show 0≤z∧z≤2000 * (i:Int)∧i≤399∧14≤c∧c≤1098 from ⟨by rw [hz];exact HO.out.charged.1,by rw [hz];exact HO.out.charged.2,by omega,HCB.out.1,HCB.out.2⟩)
 clear hz
 have HZ:=Lib.hid (show some (Value.int .i64 B.charged)=some (.int .i64 z) from by rw [HZZ.out])
 obtain ⟨Bch,hBch⟩:∃ b:Bk,b={ B with serial:=b32 B.serial r.serial,toks:=Rgt.put (tokOf r) B.toks,charged:=z+c }:=⟨_,rfl⟩
 have HBC:=Lib.hid (show (bcells { B with toks:=Rgt.put (tokOf r) B.toks,serial:=b32 B.serial r.serial } s).setIfInBounds 11 (.int .i64 (z+c))=bcells Bch s from by rw [hBch];rfl)
 have HOz:=Lib.hid (show Ok Bch T m (i+1) from by
  rw [hBch]
  exact HO.out.more.with B.seq (b32 B.serial r.serial) (z+c) (Rgt.put (tokOf r) B.toks) HO.out.seq (by have:=bump_le (top:=4294967295) (c:=B.serial) (n:=r.serial) (by have:=HO.out.serial;omega);unfold b32;omega) (by have:=HZB.out;omega) B.q1 B.q2 B.q3)
 have HEND:=Lib.hid (show app B T r p=Bch∧appT B T r p=T from by
  have ht:told B r=true:=by unfold told;rw [decide_eq_true HOW.out,HK.out];rw [decide_eq_true HPE.out];rfl
  unfold app appT madeT made
  rw [ht,HK.out,hBch,HZZ.out,HCC.out]
  rw [show tot (all (if (5:Int)=3 then Key.put T (entOf r p) else if (5:Int)=4 then Key.del T r.key else T))=B.bytes from HO.out.bytes.symm]
  exact ⟨rfl,rfl⟩)
 have hBt:Bch.toks={ B with toks:=Rgt.put (tokOf r) B.toks,serial:=b32 B.serial r.serial }.toks:=by rw [hBch]
 clear hBch
 have HCZ:=Lib.hid (fun V (hV:But (fun _=>False) wz V)=>show V.cell? ⟨s.p,11,none⟩=some (.int .i64 z) from by
  have:=(HMz.out.new hV).cell 11
  (try rw [HPz.out] at this)
  exact this.trans HZ.out)
 have HRZ:=Lib.hid (fun V (hV:But (fun _=>False) wz V)=>show V.rangeAt b4 0 (rcs r) from blk_range0 (A:=[]) (B:=rcs r) (HXz.out.but hV (fun h=>h)))
 have ww:IntKind.i64.wrap (z+c)=z+c:=IntWalk.i64_in _ (by have:=HZB.out;omega)
 go_wp2_with fail
 refine Late.region_goes (fun V=>But (fun _=>False) wz V) (fun j=>j == 9) (by kernel_rfl) ?_ (fun hH=>?_)
 ·exact (But.refl _ wz).drew
 refine Late.tk 0 ?_ ?_ hH ?_;rotate_left 2
 refine Late.tk 1 ?_ ?_ hH ?_;rotate_left 2
 refine Late.tk 2 ?_ ?_ hH ?_;rotate_left 2
 refine Late.tk 3 ?_ ?_ hH ?_;rotate_left 2
 rotate_left
 any_goals (intro wy hSw;(try dsimp only at hSw);have k0:=HCZ.out wy hSw;go_simp;try (with_reducible rfl))
 try simp only [Act.put,List.setIfInBounds_toArray,List.set_cons_zero,List.set_cons_succ]
 refine Late.Goes.takeT (i:=4) (v:=_) (by simp only [List.getElem?_toArray,List.getElem?_cons_succ,List.getElem?_cons_zero];rfl) (by kernel_rfl) (by kernel_rfl) (by kernel_rfl) (by kernel_rfl) (by kernel_rfl) (by exact fun _ _ _ h=>h) (yields_rec (by rfl) _ rfl b4 0 rfl r (fun V hV=>HRZ.out V hV)) hH ?_
 try simp only [Act.put,List.setIfInBounds_toArray,List.set_cons_zero,List.set_cons_succ]
 have HVz:=Lib.hid hH
 refine Late.Goes.one (i:=5) (by kernel_rfl) (by simp only [List.getElem?_toArray,List.getElem?_cons_succ,List.getElem?_cons_zero];rfl) (fun K hK=>?_)
 clear hH
 go_simp
 go_at_call 34
 refine (Rec.cost_any r HIS.out _).mono ?_
 rintro e wy ⟨rfl,hbe⟩
 rw [← HCC.out]
 have HVy:=Lib.hid (HVz.out.trans (But.of_new hbe:But (fun _=>False) _ _) (fun _ _ h=>h))
 clear hbe
 refine hK.out _ _ ?_ (fun hH=>?_)
 ·exact fun _=>HVy.out
 clear hK K
 have hH:=hH rfl
 try simp only [Act.put,List.setIfInBounds_toArray,List.set_cons_zero,List.set_cons_succ]
 refine Late.tk 6 ?_ ?_ hH ?_;rotate_left 2
 refine Late.tk 7 ?_ ?_ hH ?_;rotate_left 2
 refine Late.tk 8 ?_ ?_ hH ?_;rotate_left 2
 rotate_left
 any_goals (intro wy hSw;(try dsimp only at hSw);have k0:=HCZ.out wy hSw;go_simp;try (with_reducible rfl))
 try simp only [Act.put,List.setIfInBounds_toArray,List.set_cons_zero,List.set_cons_succ]
 have f9:wy.frozen? ⟨s.p,11,none⟩=false:=by have:=(HMz.out.new HVy.out).blk.frozen 11;(try rw [HPz.out] at this);exact this
 have k9:=HCZ.out _ HVy.out
 refine Late.Goes.one (i:=9) (by kernel_rfl) (by simp only [List.getElem?_toArray,List.getElem?_cons_succ,List.getElem?_cons_zero];rfl) (fun K hK=>?_)
 clear hH
 go_simp
 clear k9 f9
 have HF:=Lib.hid ((HMz.out.new HVy.out).step_cell 11 (.int .i64 (z+c)) (B':=Bch) HBC.out hBt)
 (try rw [HPz.out] at HF)
 generalize wy.setCell ⟨s.p,11,none⟩ (.int .i64 (z+c))=wx at HF ⊢
 refine hK.out _ _ ?_ (fun _=>?_)
 ·exact fun h=>by cases h
 clear hK K
 try simp only [Act.put,List.setIfInBounds_toArray,List.set_cons_zero,List.set_cons_succ]
 refine Late.Goes.done (by kernel_rfl) ?_ _
 go_wp2_with fail
 have hst:=stale_any HF.out.1 HOz.out
 (try rw [HPz.out] at hst)
 refine hst.mono ?_
 rintro e wv ⟨rfl,hmade⟩
 have HE:=Lib.hid (Made.trans (HSz.out.trans ((Step.of_new HVy.out).trans HF.out.2)) hmade)
 clear hmade hst
 go_wp2_with fail
 go_ret
 rw [HEND.out.1,HEND.out.2]
 exact ⟨rfl,HE.out⟩
theorem apply_rev (h:BM w s B T m i) (o:Ok B T m i) (hi:i+1≤400) (r:Rcd) (hr:Rec.Is r) (p:Spt) (hp:SpOk p) (hown:Own B r) (hk:r.kind=6) :
  Calls Tryz.prog 9 #[.pointer (some ⟨s.p,0,none⟩),Rec.rv r,spV p] w fun e w'=>e = .returned (.bool true)∧Made w s (app B T r p) (appT B T r p) (i+1) w':=by
 have n1:(r.bucket != B.id)=false:=by simpa using hown.2.1
 have n2:((r.gen:Int) != (B.gen:Int))=false:=by have:=hown.2.2;simp;omega
 have HOW:=Lib.hid hown
 have HK:=Lib.hid hk
 clear hk
 have HCO:=Lib.hid (cost_le hown.1)
 clear hown
 have HX:=Lib.hid (Blk.two w (Rec.cells r) (spB p) 35 37)
 have HB0:=Lib.hid (((But.refl (fun _=>False) w).alloc (.cells (Rec.cells r) 35)).alloc (.cells (spB p) 37))
 have HH:=Lib.hid h
 have HO:=Lib.hid o
 have HIS:=Lib.hid hr
 have HLT:=Lib.hid h.lt
 have HSP:=Lib.hid hp
 clear h o hr hp
 change Calls _ _ #[.pointer (some ⟨s.p,0,none⟩),.agg #[.int .i64 r.kind,.int .i64 r.bucket,.int .u32 (r.gen:Int),.int .i64 r.keys,.int .i64 r.bytes,.int .i64 r.budget,.int .u64 (r.seq:Int),.int .u32 (r.serial:Int),.int .i64 r.rights,.int .u64 (r.secret:Int),.string r.key,.string r.val,.int .u64 (r.version:Int),.int .u64 (r.expiry:Int)],.agg #[.int .i64 p.1,.int .i64 p.2.1,.int .i64 p.2.2]] w _
 go_enter Tryz.func9,Tryz.ntmps9
 go_wp2_with fail
 obtain ⟨b4,hb4⟩:∃ b,b=w.heap.size:=⟨_,rfl⟩
 change Code.wp _ _ _ _ ((w.alloc (.cells (Rec.cells r) 35)).alloc (.cells (spB p) 37))
 rw [← hb4] at HX
 rw [← hb4]
 generalize (w.alloc (.cells (Rec.cells r) 35)).alloc (.cells (spB p) 37)=W at HX HB0 ⊢
 have HBL:=Lib.hid (show w.heap.size≤b4 from by omega)
 clear hb4
 have HBM:=Lib.hid (fun V (hV:But (fun _=>False) W V)=>HH.out.new (HB0.out.trans hV (fun _ _ h=>h)))
 have HXR:=Lib.hid (fun V (hV:But (fun _=>False) W V)=>show V.rangeAt b4 0 (rcs r) from blk_range0 (A:=[]) (B:=rcs r) (HX.out.1.but hV (fun h=>h)))
 have HC:=Lib.hid (fun V (hV:But (fun _=>False) W V)=>(And.intro (show V.cell? ⟨s.p,0,none⟩=some (.int .i64 B.id) from (HBM.out V hV).cell 0) (And.intro (show V.cell? ⟨s.p,1,none⟩=some (.int .u32 (B.gen:Int)) from (HBM.out V hV).cell 1) (And.intro (show V.cell? ⟨b4,1,none⟩=some (.int .i64 r.bucket) from (HX.out.1.but hV (fun h=>h)).cell 1) (show V.cell? ⟨b4,2,none⟩=some (.int .u32 (r.gen:Int)) from (HX.out.1.but hV (fun h=>h)).cell 2)))))
 refine Late.region_goes (fun V=>But (fun _=>False) W V) (fun _=>false) (by kernel_rfl) ?_ (fun hH=>?_)
 ·exact (But.refl _ W).drew
 refine Late.Goes.takeT (i:=0) (v:=_) (by simp only [List.getElem?_toArray,List.getElem?_cons_succ,List.getElem?_cons_zero];rfl) (by kernel_rfl) (by kernel_rfl) (by kernel_rfl) (by kernel_rfl) (by kernel_rfl) (by exact fun _ _ _ h=>h) (yields_rec (by rfl) _ rfl b4 0 rfl r (fun V hV=>HXR.out V hV)) hH ?_
 try simp only [Act.put,List.setIfInBounds_toArray,List.set_cons_zero,List.set_cons_succ]
 have HV:=Lib.hid hH
 refine Late.Goes.one (i:=1) (by kernel_rfl) (by simp only [List.getElem?_toArray,List.getElem?_cons_succ,List.getElem?_cons_zero];rfl) (fun K hK=>?_)
 clear hH
 go_simp
 go_at_call 28
 refine (Rec.may_any r _).mono ?_
 rintro e w1 ⟨rfl,hbe⟩
 have HV1:=Lib.hid (HV.out.trans (But.of_new hbe:But (fun _=>False) _ _) (fun _ _ h=>h))
 clear hbe
 rw [decide_eq_true HOW.out.1]
 simp only [Bool.not_true,Bool.not_false]
 refine hK.out _ _ ?_ (fun hH=>?_)
 ·exact fun _=>HV1.out
 clear hK K
 have hH:=hH rfl
 try simp only [Act.put,List.setIfInBounds_toArray,List.set_cons_zero,List.set_cons_succ]
 refine Late.tk 2 ?_ ?_ hH ?_ (hw:=by kernel_rfl);rotate_left;focus (intro wy hSw;(try dsimp only at hSw);have kk:=HC.out wy hSw;have k0:=kk.1;have k1:=kk.2.1;have k2:=kk.2.2.1;have k3:=kk.2.2.2;clear kk;go_simp;try (with_reducible rfl))
 refine Late.tk 3 ?_ ?_ hH ?_ (hw:=by kernel_rfl);rotate_left;focus (intro wy hSw;(try dsimp only at hSw);have kk:=HC.out wy hSw;have k0:=kk.1;have k1:=kk.2.1;have k2:=kk.2.2.1;have k3:=kk.2.2.2;clear kk;go_simp;try (with_reducible rfl))
 refine Late.tk 4 ?_ ?_ hH ?_ (hw:=by kernel_rfl);rotate_left;focus (intro wy hSw;(try dsimp only at hSw);have kk:=HC.out wy hSw;have k0:=kk.1;have k1:=kk.2.1;have k2:=kk.2.2.1;have k3:=kk.2.2.2;clear kk;go_simp;try (with_reducible rfl))
 refine Late.tk 5 ?_ ?_ hH ?_ (hw:=by kernel_rfl);rotate_left;focus (intro wy hSw;(try dsimp only at hSw);have kk:=HC.out wy hSw;have k0:=kk.1;have k1:=kk.2.1;have k2:=kk.2.2.1;have k3:=kk.2.2.2;clear kk;go_simp;try (with_reducible rfl))
 refine Late.tk 6 ?_ ?_ hH ?_ (hw:=by kernel_rfl);rotate_left;focus (intro wy hSw;(try dsimp only at hSw);have kk:=HC.out wy hSw;have k0:=kk.1;have k1:=kk.2.1;have k2:=kk.2.2.1;have k3:=kk.2.2.2;clear kk;go_simp;try (with_reducible rfl))
 refine Late.tk 7 ?_ ?_ hH ?_ (hw:=by kernel_rfl);rotate_left;focus (intro wy hSw;(try dsimp only at hSw);have kk:=HC.out wy hSw;have k0:=kk.1;have k1:=kk.2.1;have k2:=kk.2.2.1;have k3:=kk.2.2.2;clear kk;go_simp;try (with_reducible rfl))
 refine Late.tk 8 ?_ ?_ hH ?_ (hw:=by kernel_rfl);rotate_left;focus (intro wy hSw;(try dsimp only at hSw);have kk:=HC.out wy hSw;have k0:=kk.1;have k1:=kk.2.1;have k2:=kk.2.2.1;have k3:=kk.2.2.2;clear kk;go_simp;try (with_reducible rfl))
 refine Late.tk 9 ?_ ?_ hH ?_ (hw:=by kernel_rfl);rotate_left;focus (intro wy hSw;(try dsimp only at hSw);have kk:=HC.out wy hSw;have k0:=kk.1;have k1:=kk.2.1;have k2:=kk.2.2.1;have k3:=kk.2.2.2;clear kk;go_simp;try (with_reducible rfl))
 refine Late.tk 10 ?_ ?_ hH ?_ (hw:=by kernel_rfl);rotate_left;focus (intro wy hSw;(try dsimp only at hSw);have kk:=HC.out wy hSw;have k0:=kk.1;have k1:=kk.2.1;have k2:=kk.2.2.1;have k3:=kk.2.2.2;clear kk;go_simp;try (with_reducible rfl))
 refine Late.tk 11 ?_ ?_ hH ?_ (hw:=by kernel_rfl);rotate_left;focus (intro wy hSw;(try dsimp only at hSw);have kk:=HC.out wy hSw;have k0:=kk.1;have k1:=kk.2.1;have k2:=kk.2.2.1;have k3:=kk.2.2.2;clear kk;go_simp;try (with_reducible rfl))
 refine Late.tk 12 ?_ ?_ hH ?_ (hw:=by kernel_rfl);rotate_left;focus (intro wy hSw;(try dsimp only at hSw);have kk:=HC.out wy hSw;have k0:=kk.1;have k1:=kk.2.1;have k2:=kk.2.2.1;have k3:=kk.2.2.2;clear kk;go_simp;try (with_reducible rfl))
 refine Late.tk 13 ?_ ?_ hH ?_ (hw:=by kernel_rfl);rotate_left;focus (intro wy hSw;(try dsimp only at hSw);have kk:=HC.out wy hSw;have k0:=kk.1;have k1:=kk.2.1;have k2:=kk.2.2.1;have k3:=kk.2.2.2;clear kk;go_simp;try (with_reducible rfl))
 refine Late.tk 14 ?_ ?_ hH ?_ (hw:=by kernel_rfl);rotate_left;focus (intro wy hSw;(try dsimp only at hSw);have kk:=HC.out wy hSw;have k0:=kk.1;have k1:=kk.2.1;have k2:=kk.2.2.1;have k3:=kk.2.2.2;clear kk;go_simp;try (with_reducible rfl))
 refine Late.tk 15 ?_ ?_ hH ?_ (hw:=by kernel_rfl);rotate_left;focus (intro wy hSw;(try dsimp only at hSw);have kk:=HC.out wy hSw;have k0:=kk.1;have k1:=kk.2.1;have k2:=kk.2.2.1;have k3:=kk.2.2.2;clear kk;go_simp;try (with_reducible rfl))
 refine Late.tk 16 ?_ ?_ hH ?_ (hw:=by kernel_rfl);rotate_left;focus (intro wy hSw;(try dsimp only at hSw);have kk:=HC.out wy hSw;have k0:=kk.1;have k1:=kk.2.1;have k2:=kk.2.2.1;have k3:=kk.2.2.2;clear kk;go_simp;try (with_reducible rfl))
 refine Late.tk 17 ?_ ?_ hH ?_ (hw:=by kernel_rfl);rotate_left;focus (intro wy hSw;(try dsimp only at hSw);have kk:=HC.out wy hSw;have k0:=kk.1;have k1:=kk.2.1;have k2:=kk.2.2.1;have k3:=kk.2.2.2;clear kk;go_simp;try (with_reducible rfl))
 refine Late.tk 18 ?_ ?_ hH ?_ (hw:=by kernel_rfl);rotate_left;focus (intro wy hSw;(try dsimp only at hSw);have kk:=HC.out wy hSw;have k0:=kk.1;have k1:=kk.2.1;have k2:=kk.2.2.1;have k3:=kk.2.2.2;clear kk;go_simp;try (with_reducible rfl))
 refine Late.tk 19 ?_ ?_ hH ?_ (hw:=by kernel_rfl);rotate_left;focus (intro wy hSw;(try dsimp only at hSw);have kk:=HC.out wy hSw;have k0:=kk.1;have k1:=kk.2.1;have k2:=kk.2.2.1;have k3:=kk.2.2.2;clear kk;go_simp;try (with_reducible rfl))
 refine Late.tk 20 ?_ ?_ hH ?_ (hw:=by kernel_rfl);rotate_left;focus (intro wy hSw;(try dsimp only at hSw);have kk:=HC.out wy hSw;have k0:=kk.1;have k1:=kk.2.1;have k2:=kk.2.2.1;have k3:=kk.2.2.2;clear kk;go_simp;try (with_reducible rfl))
 try simp only [Act.put,List.setIfInBounds_toArray,List.set_cons_zero,List.set_cons_succ]
 refine Late.Goes.done (by kernel_rfl) ?_ _
 have HX1:=Lib.hid (And.intro (HX.out.1.but HV1.out (fun h=>h)) (HX.out.2.but HV1.out (fun h=>h)))
 have HM1:=Lib.hid (HBM.out _ HV1.out)
 have HS1:=Lib.hid (Step.of_new (s:=s) (HB0.out.trans HV1.out (fun _ _ h=>h)))
 have c0:w1.cell? ⟨b4,0,none⟩=some (.int .i64 6):=by
  have h:w1.cell? ⟨b4,0,none⟩=some (.int .i64 r.kind):=HX1.out.1.cell 0
  rw [HK.out] at h
  exact h
 clear n1 n2 HXR HC HBM HV1 HV hH
 have HK5:=Lib.hid (show w1.drew.cell? ⟨s.p,9,none⟩=some (.pointer (some ⟨s.tp,0,none⟩))∧w1.drew.cell? ⟨b4,7,none⟩=some (.int .u32 (r.serial:Int)) from ⟨HM1.out.cell 9,HX1.out.1.cell 7⟩)
 have HM1D:=Lib.hid (HM1.out.new ((But.refl (fun _=>False) w1).drew))
 have HRP:=Lib.hid (Rgt.rgt_revoke HM1D.out.tok (s:=r.serial) HIS.out.serial)
 go_wp2_with fail
 refine Late.region_goes (fun V=>V=w1.drew) (fun j=>j == 6) (by kernel_rfl) ?_ (fun hH=>?_)
 ·rfl
 refine Late.tk 0 ?_ ?_ hH ?_;rotate_left 2
 refine Late.tk 1 ?_ ?_ hH ?_;rotate_left 2
 refine Late.tk 2 ?_ ?_ hH ?_;rotate_left 2
 refine Late.tk 3 ?_ ?_ hH ?_;rotate_left 2
 refine Late.tk 4 ?_ ?_ hH ?_;rotate_left 2
 refine Late.tk 5 ?_ ?_ hH ?_;rotate_left 2
 rotate_left
 any_goals (intro wy hSw;(try dsimp only at hSw);subst hSw;have k0:=HK5.out.1;have k1:=HK5.out.2;go_simp;try (with_reducible rfl))
 try simp only [Act.put,List.setIfInBounds_toArray,List.set_cons_zero,List.set_cons_succ]
 refine Late.Goes.one (i:=6) (by kernel_rfl) (by simp only [List.getElem?_toArray,List.getElem?_cons_succ,List.getElem?_cons_zero];rfl) (fun K hK=>?_)
 clear hH
 go_simp
 go_at_call 33
 refine HRP.out.mono ?_
 rintro e wz ⟨rfl,ht2,hb2⟩
 have HT2:=Lib.hid (And.intro ht2 hb2)
 clear ht2 hb2
 refine hK.out _ _ ?_ (fun _=>?_)
 ·exact fun h=>by cases h
 clear hK K
 try simp only [Act.put,List.setIfInBounds_toArray,List.set_cons_zero,List.set_cons_succ]
 refine Late.Goes.done (by kernel_rfl) ?_ _
 have hst2:=HM1D.out.step_tok (ts:=Rgt.del r.serial B.toks) HT2.out.1 HT2.out.2
 have hnb:=HM1D.out.no (HX1.out.1.but ((But.refl (fun _=>False) w1).drew) (fun h=>h)) (by decide)
 have HXz:=Lib.hid ((HX1.out.1.but ((But.refl (fun _=>False) w1).drew) (fun h=>h)).but hst2.2.but hnb)
 have HMz:=Lib.hid (hst2.1.more hi)
 have HSz:=Lib.hid (HS1.out.trans ((Step.of_new ((But.refl (fun _=>False) w1).drew)).trans hst2.2))
 have HPz:=Lib.hid (show s.p=s.p from rfl)
 clear hst2 hnb c0
 obtain ⟨c,hc⟩:∃ c,c=Rec.costOf r:=⟨_,rfl⟩
 have HCC:=Lib.hid hc
 have HCB:=Lib.hid (show 14≤c∧c≤1098 from by rw [hc];exact HCO.out)
 clear hc
 obtain ⟨z,hz⟩:∃ z,z=B.charged:=⟨_,rfl⟩
 have HZZ:=Lib.hid hz
 have HZB:=Lib.hid (show 0≤z∧z≤2000 * (i:Int)∧i≤399∧14≤c∧c≤1098 from ⟨by rw [hz];exact HO.out.charged.1,by rw [hz];exact HO.out.charged.2,by omega,HCB.out.1,HCB.out.2⟩)
 clear hz
 have HZ:=Lib.hid (show some (Value.int .i64 B.charged)=some (.int .i64 z) from by rw [HZZ.out])
 obtain ⟨Bch,hBch⟩:∃ b:Bk,b={ B with toks:=Rgt.del r.serial B.toks,charged:=z+c }:=⟨_,rfl⟩
 have HBC:=Lib.hid (show (bcells { B with toks:=Rgt.del r.serial B.toks } s).setIfInBounds 11 (.int .i64 (z+c))=bcells Bch s from by rw [hBch];rfl)
 have HOz:=Lib.hid (show Ok Bch T m (i+1) from by
  rw [hBch]
  exact HO.out.more.with B.seq B.serial (z+c) (Rgt.del r.serial B.toks) HO.out.seq HO.out.serial (by have:=HZB.out;omega) B.q1 B.q2 B.q3)
 have HEND:=Lib.hid (show app B T r p=Bch∧appT B T r p=T from by
  have ht:told B r=true:=by unfold told;rw [decide_eq_true HOW.out,HK.out];rfl
  unfold app appT madeT made
  rw [ht,HK.out,hBch,HZZ.out,HCC.out]
  rw [show tot (all (if (6:Int)=3 then Key.put T (entOf r p) else if (6:Int)=4 then Key.del T r.key else T))=B.bytes from HO.out.bytes.symm]
  exact ⟨rfl,rfl⟩)
 have hBt:Bch.toks={ B with toks:=Rgt.del r.serial B.toks }.toks:=by rw [hBch]
 clear hBch
 have HCZ:=Lib.hid (fun V (hV:But (fun _=>False) wz V)=>show V.cell? ⟨s.p,11,none⟩=some (.int .i64 z) from by
  have:=(HMz.out.new hV).cell 11
  (try rw [HPz.out] at this)
  exact this.trans HZ.out)
 have HRZ:=Lib.hid (fun V (hV:But (fun _=>False) wz V)=>show V.rangeAt b4 0 (rcs r) from blk_range0 (A:=[]) (B:=rcs r) (HXz.out.but hV (fun h=>h)))
 have ww:IntKind.i64.wrap (z+c)=z+c:=IntWalk.i64_in _ (by have:=HZB.out;omega)
 go_wp2_with fail
 refine Late.region_goes (fun V=>But (fun _=>False) wz V) (fun j=>j == 9) (by kernel_rfl) ?_ (fun hH=>?_)
 ·exact (But.refl _ wz).drew
 refine Late.tk 0 ?_ ?_ hH ?_;rotate_left 2
 refine Late.tk 1 ?_ ?_ hH ?_;rotate_left 2
 refine Late.tk 2 ?_ ?_ hH ?_;rotate_left 2
 refine Late.tk 3 ?_ ?_ hH ?_;rotate_left 2
 rotate_left
 any_goals (intro wy hSw;(try dsimp only at hSw);have k0:=HCZ.out wy hSw;go_simp;try (with_reducible rfl))
 try simp only [Act.put,List.setIfInBounds_toArray,List.set_cons_zero,List.set_cons_succ]
 refine Late.Goes.takeT (i:=4) (v:=_) (by simp only [List.getElem?_toArray,List.getElem?_cons_succ,List.getElem?_cons_zero];rfl) (by kernel_rfl) (by kernel_rfl) (by kernel_rfl) (by kernel_rfl) (by kernel_rfl) (by exact fun _ _ _ h=>h) (yields_rec (by rfl) _ rfl b4 0 rfl r (fun V hV=>HRZ.out V hV)) hH ?_
 try simp only [Act.put,List.setIfInBounds_toArray,List.set_cons_zero,List.set_cons_succ]
 have HVz:=Lib.hid hH
 refine Late.Goes.one (i:=5) (by kernel_rfl) (by simp only [List.getElem?_toArray,List.getElem?_cons_succ,List.getElem?_cons_zero];rfl) (fun K hK=>?_)
 clear hH
 go_simp
 go_at_call 34
 refine (Rec.cost_any r HIS.out _).mono ?_
 rintro e wy ⟨rfl,hbe⟩
 rw [← HCC.out]
 have HVy:=Lib.hid (HVz.out.trans (But.of_new hbe:But (fun _=>False) _ _) (fun _ _ h=>h))
 clear hbe
 refine hK.out _ _ ?_ (fun hH=>?_)
 ·exact fun _=>HVy.out
 clear hK K
 have hH:=hH rfl
 try simp only [Act.put,List.setIfInBounds_toArray,List.set_cons_zero,List.set_cons_succ]
 refine Late.tk 6 ?_ ?_ hH ?_;rotate_left 2
 refine Late.tk 7 ?_ ?_ hH ?_;rotate_left 2
 refine Late.tk 8 ?_ ?_ hH ?_;rotate_left 2
 rotate_left
 any_goals (intro wy hSw;(try dsimp only at hSw);have k0:=HCZ.out wy hSw;go_simp;try (with_reducible rfl))
 try simp only [Act.put,List.setIfInBounds_toArray,List.set_cons_zero,List.set_cons_succ]
 have f9:wy.frozen? ⟨s.p,11,none⟩=false:=by have:=(HMz.out.new HVy.out).blk.frozen 11;(try rw [HPz.out] at this);exact this
 have k9:=HCZ.out _ HVy.out
 refine Late.Goes.one (i:=9) (by kernel_rfl) (by simp only [List.getElem?_toArray,List.getElem?_cons_succ,List.getElem?_cons_zero];rfl) (fun K hK=>?_)
 clear hH
 go_simp
 clear k9 f9
 have HF:=Lib.hid ((HMz.out.new HVy.out).step_cell 11 (.int .i64 (z+c)) (B':=Bch) HBC.out hBt)
 (try rw [HPz.out] at HF)
 generalize wy.setCell ⟨s.p,11,none⟩ (.int .i64 (z+c))=wx at HF ⊢
 refine hK.out _ _ ?_ (fun _=>?_)
 ·exact fun h=>by cases h
 clear hK K
 try simp only [Act.put,List.setIfInBounds_toArray,List.set_cons_zero,List.set_cons_succ]
 refine Late.Goes.done (by kernel_rfl) ?_ _
 go_wp2_with fail
 have hst:=stale_any HF.out.1 HOz.out
 (try rw [HPz.out] at hst)
 refine hst.mono ?_
 rintro e wv ⟨rfl,hmade⟩
 have HE:=Lib.hid (Made.trans (HSz.out.trans ((Step.of_new HVy.out).trans HF.out.2)) hmade)
 clear hmade hst
 go_wp2_with fail
 go_ret
 rw [HEND.out.1,HEND.out.2]
 exact ⟨rfl,HE.out⟩
theorem apply_meta (h:BM w s B T m i) (o:Ok B T m i) (hi:i+1≤400) (r:Rcd) (hr:Rec.Is r) (p:Spt) (hp:SpOk p) (hown:Own B r) (hk:r.kind=1) :
  Calls Tryz.prog 9 #[.pointer (some ⟨s.p,0,none⟩),Rec.rv r,spV p] w fun e w'=>e = .returned (.bool true)∧Made w s (app B T r p) (appT B T r p) (i+1) w':=by
 have n1:(r.bucket != B.id)=false:=by simpa using hown.2.1
 have n2:((r.gen:Int) != (B.gen:Int))=false:=by have:=hown.2.2;simp;omega
 have HOW:=Lib.hid hown
 have HK:=Lib.hid hk
 clear hk
 have HCO:=Lib.hid (cost_le hown.1)
 clear hown
 have HX:=Lib.hid (Blk.two w (Rec.cells r) (spB p) 35 37)
 have HB0:=Lib.hid (((But.refl (fun _=>False) w).alloc (.cells (Rec.cells r) 35)).alloc (.cells (spB p) 37))
 have HH:=Lib.hid h
 have HO:=Lib.hid o
 have HIS:=Lib.hid hr
 have HLT:=Lib.hid h.lt
 have HSP:=Lib.hid hp
 clear h o hr hp
 change Calls _ _ #[.pointer (some ⟨s.p,0,none⟩),.agg #[.int .i64 r.kind,.int .i64 r.bucket,.int .u32 (r.gen:Int),.int .i64 r.keys,.int .i64 r.bytes,.int .i64 r.budget,.int .u64 (r.seq:Int),.int .u32 (r.serial:Int),.int .i64 r.rights,.int .u64 (r.secret:Int),.string r.key,.string r.val,.int .u64 (r.version:Int),.int .u64 (r.expiry:Int)],.agg #[.int .i64 p.1,.int .i64 p.2.1,.int .i64 p.2.2]] w _
 go_enter Tryz.func9,Tryz.ntmps9
 go_wp2_with fail
 obtain ⟨b4,hb4⟩:∃ b,b=w.heap.size:=⟨_,rfl⟩
 change Code.wp _ _ _ _ ((w.alloc (.cells (Rec.cells r) 35)).alloc (.cells (spB p) 37))
 rw [← hb4] at HX
 rw [← hb4]
 generalize (w.alloc (.cells (Rec.cells r) 35)).alloc (.cells (spB p) 37)=W at HX HB0 ⊢
 have HBL:=Lib.hid (show w.heap.size≤b4 from by omega)
 clear hb4
 have HBM:=Lib.hid (fun V (hV:But (fun _=>False) W V)=>HH.out.new (HB0.out.trans hV (fun _ _ h=>h)))
 have HXR:=Lib.hid (fun V (hV:But (fun _=>False) W V)=>show V.rangeAt b4 0 (rcs r) from blk_range0 (A:=[]) (B:=rcs r) (HX.out.1.but hV (fun h=>h)))
 have HC:=Lib.hid (fun V (hV:But (fun _=>False) W V)=>(And.intro (show V.cell? ⟨s.p,0,none⟩=some (.int .i64 B.id) from (HBM.out V hV).cell 0) (And.intro (show V.cell? ⟨s.p,1,none⟩=some (.int .u32 (B.gen:Int)) from (HBM.out V hV).cell 1) (And.intro (show V.cell? ⟨b4,1,none⟩=some (.int .i64 r.bucket) from (HX.out.1.but hV (fun h=>h)).cell 1) (show V.cell? ⟨b4,2,none⟩=some (.int .u32 (r.gen:Int)) from (HX.out.1.but hV (fun h=>h)).cell 2)))))
 refine Late.region_goes (fun V=>But (fun _=>False) W V) (fun _=>false) (by kernel_rfl) ?_ (fun hH=>?_)
 ·exact (But.refl _ W).drew
 refine Late.Goes.takeT (i:=0) (v:=_) (by simp only [List.getElem?_toArray,List.getElem?_cons_succ,List.getElem?_cons_zero];rfl) (by kernel_rfl) (by kernel_rfl) (by kernel_rfl) (by kernel_rfl) (by kernel_rfl) (by exact fun _ _ _ h=>h) (yields_rec (by rfl) _ rfl b4 0 rfl r (fun V hV=>HXR.out V hV)) hH ?_
 try simp only [Act.put,List.setIfInBounds_toArray,List.set_cons_zero,List.set_cons_succ]
 have HV:=Lib.hid hH
 refine Late.Goes.one (i:=1) (by kernel_rfl) (by simp only [List.getElem?_toArray,List.getElem?_cons_succ,List.getElem?_cons_zero];rfl) (fun K hK=>?_)
 clear hH
 go_simp
 go_at_call 28
 refine (Rec.may_any r _).mono ?_
 rintro e w1 ⟨rfl,hbe⟩
 have HV1:=Lib.hid (HV.out.trans (But.of_new hbe:But (fun _=>False) _ _) (fun _ _ h=>h))
 clear hbe
 rw [decide_eq_true HOW.out.1]
 simp only [Bool.not_true,Bool.not_false]
 refine hK.out _ _ ?_ (fun hH=>?_)
 ·exact fun _=>HV1.out
 clear hK K
 have hH:=hH rfl
 try simp only [Act.put,List.setIfInBounds_toArray,List.set_cons_zero,List.set_cons_succ]
 refine Late.tk 2 ?_ ?_ hH ?_ (hw:=by kernel_rfl);rotate_left;focus (intro wy hSw;(try dsimp only at hSw);have kk:=HC.out wy hSw;have k0:=kk.1;have k1:=kk.2.1;have k2:=kk.2.2.1;have k3:=kk.2.2.2;clear kk;go_simp;try (with_reducible rfl))
 refine Late.tk 3 ?_ ?_ hH ?_ (hw:=by kernel_rfl);rotate_left;focus (intro wy hSw;(try dsimp only at hSw);have kk:=HC.out wy hSw;have k0:=kk.1;have k1:=kk.2.1;have k2:=kk.2.2.1;have k3:=kk.2.2.2;clear kk;go_simp;try (with_reducible rfl))
 refine Late.tk 4 ?_ ?_ hH ?_ (hw:=by kernel_rfl);rotate_left;focus (intro wy hSw;(try dsimp only at hSw);have kk:=HC.out wy hSw;have k0:=kk.1;have k1:=kk.2.1;have k2:=kk.2.2.1;have k3:=kk.2.2.2;clear kk;go_simp;try (with_reducible rfl))
 refine Late.tk 5 ?_ ?_ hH ?_ (hw:=by kernel_rfl);rotate_left;focus (intro wy hSw;(try dsimp only at hSw);have kk:=HC.out wy hSw;have k0:=kk.1;have k1:=kk.2.1;have k2:=kk.2.2.1;have k3:=kk.2.2.2;clear kk;go_simp;try (with_reducible rfl))
 refine Late.tk 6 ?_ ?_ hH ?_ (hw:=by kernel_rfl);rotate_left;focus (intro wy hSw;(try dsimp only at hSw);have kk:=HC.out wy hSw;have k0:=kk.1;have k1:=kk.2.1;have k2:=kk.2.2.1;have k3:=kk.2.2.2;clear kk;go_simp;try (with_reducible rfl))
 refine Late.tk 7 ?_ ?_ hH ?_ (hw:=by kernel_rfl);rotate_left;focus (intro wy hSw;(try dsimp only at hSw);have kk:=HC.out wy hSw;have k0:=kk.1;have k1:=kk.2.1;have k2:=kk.2.2.1;have k3:=kk.2.2.2;clear kk;go_simp;try (with_reducible rfl))
 refine Late.tk 8 ?_ ?_ hH ?_ (hw:=by kernel_rfl);rotate_left;focus (intro wy hSw;(try dsimp only at hSw);have kk:=HC.out wy hSw;have k0:=kk.1;have k1:=kk.2.1;have k2:=kk.2.2.1;have k3:=kk.2.2.2;clear kk;go_simp;try (with_reducible rfl))
 refine Late.tk 9 ?_ ?_ hH ?_ (hw:=by kernel_rfl);rotate_left;focus (intro wy hSw;(try dsimp only at hSw);have kk:=HC.out wy hSw;have k0:=kk.1;have k1:=kk.2.1;have k2:=kk.2.2.1;have k3:=kk.2.2.2;clear kk;go_simp;try (with_reducible rfl))
 refine Late.tk 10 ?_ ?_ hH ?_ (hw:=by kernel_rfl);rotate_left;focus (intro wy hSw;(try dsimp only at hSw);have kk:=HC.out wy hSw;have k0:=kk.1;have k1:=kk.2.1;have k2:=kk.2.2.1;have k3:=kk.2.2.2;clear kk;go_simp;try (with_reducible rfl))
 refine Late.tk 11 ?_ ?_ hH ?_ (hw:=by kernel_rfl);rotate_left;focus (intro wy hSw;(try dsimp only at hSw);have kk:=HC.out wy hSw;have k0:=kk.1;have k1:=kk.2.1;have k2:=kk.2.2.1;have k3:=kk.2.2.2;clear kk;go_simp;try (with_reducible rfl))
 refine Late.tk 12 ?_ ?_ hH ?_ (hw:=by kernel_rfl);rotate_left;focus (intro wy hSw;(try dsimp only at hSw);have kk:=HC.out wy hSw;have k0:=kk.1;have k1:=kk.2.1;have k2:=kk.2.2.1;have k3:=kk.2.2.2;clear kk;go_simp;try (with_reducible rfl))
 refine Late.tk 13 ?_ ?_ hH ?_ (hw:=by kernel_rfl);rotate_left;focus (intro wy hSw;(try dsimp only at hSw);have kk:=HC.out wy hSw;have k0:=kk.1;have k1:=kk.2.1;have k2:=kk.2.2.1;have k3:=kk.2.2.2;clear kk;go_simp;try (with_reducible rfl))
 refine Late.tk 14 ?_ ?_ hH ?_ (hw:=by kernel_rfl);rotate_left;focus (intro wy hSw;(try dsimp only at hSw);have kk:=HC.out wy hSw;have k0:=kk.1;have k1:=kk.2.1;have k2:=kk.2.2.1;have k3:=kk.2.2.2;clear kk;go_simp;try (with_reducible rfl))
 refine Late.tk 15 ?_ ?_ hH ?_ (hw:=by kernel_rfl);rotate_left;focus (intro wy hSw;(try dsimp only at hSw);have kk:=HC.out wy hSw;have k0:=kk.1;have k1:=kk.2.1;have k2:=kk.2.2.1;have k3:=kk.2.2.2;clear kk;go_simp;try (with_reducible rfl))
 refine Late.tk 16 ?_ ?_ hH ?_ (hw:=by kernel_rfl);rotate_left;focus (intro wy hSw;(try dsimp only at hSw);have kk:=HC.out wy hSw;have k0:=kk.1;have k1:=kk.2.1;have k2:=kk.2.2.1;have k3:=kk.2.2.2;clear kk;go_simp;try (with_reducible rfl))
 refine Late.tk 17 ?_ ?_ hH ?_ (hw:=by kernel_rfl);rotate_left;focus (intro wy hSw;(try dsimp only at hSw);have kk:=HC.out wy hSw;have k0:=kk.1;have k1:=kk.2.1;have k2:=kk.2.2.1;have k3:=kk.2.2.2;clear kk;go_simp;try (with_reducible rfl))
 refine Late.tk 18 ?_ ?_ hH ?_ (hw:=by kernel_rfl);rotate_left;focus (intro wy hSw;(try dsimp only at hSw);have kk:=HC.out wy hSw;have k0:=kk.1;have k1:=kk.2.1;have k2:=kk.2.2.1;have k3:=kk.2.2.2;clear kk;go_simp;try (with_reducible rfl))
 refine Late.tk 19 ?_ ?_ hH ?_ (hw:=by kernel_rfl);rotate_left;focus (intro wy hSw;(try dsimp only at hSw);have kk:=HC.out wy hSw;have k0:=kk.1;have k1:=kk.2.1;have k2:=kk.2.2.1;have k3:=kk.2.2.2;clear kk;go_simp;try (with_reducible rfl))
 refine Late.tk 20 ?_ ?_ hH ?_ (hw:=by kernel_rfl);rotate_left;focus (intro wy hSw;(try dsimp only at hSw);have kk:=HC.out wy hSw;have k0:=kk.1;have k1:=kk.2.1;have k2:=kk.2.2.1;have k3:=kk.2.2.2;clear kk;go_simp;try (with_reducible rfl))
 try simp only [Act.put,List.setIfInBounds_toArray,List.set_cons_zero,List.set_cons_succ]
 refine Late.Goes.done (by kernel_rfl) ?_ _
 have HX1:=Lib.hid (And.intro (HX.out.1.but HV1.out (fun h=>h)) (HX.out.2.but HV1.out (fun h=>h)))
 have HM1:=Lib.hid (HBM.out _ HV1.out)
 have HS1:=Lib.hid (Step.of_new (s:=s) (HB0.out.trans HV1.out (fun _ _ h=>h)))
 have c0:w1.cell? ⟨b4,0,none⟩=some (.int .i64 1):=by
  have h:w1.cell? ⟨b4,0,none⟩=some (.int .i64 r.kind):=HX1.out.1.cell 0
  rw [HK.out] at h
  exact h
 clear n1 n2 HXR HC HBM HV1 HV hH
 have HM1D:=Lib.hid (HM1.out.new ((But.refl (fun _=>False) w1).drew))
 have HX1D:=Lib.hid (HX1.out.1.but ((But.refl (fun _=>False) w1).drew) (fun h=>h))
 have HK5:=Lib.hid (show w1.drew.cell? ⟨b4,6,none⟩=some (.int .u64 (r.seq:Int))∧w1.drew.cell? ⟨b4,7,none⟩=some (.int .u32 (r.serial:Int)) from ⟨HX1.out.1.cell 6,HX1.out.1.cell 7⟩)
 have HTH:=Lib.hid (show w1.drew.there s.p 2 3 from fun j hj=>⟨by
  rw [HM1D.out.blk.cell]
  rcases j with _|_|_|j
  ·rfl
  ·rfl
  ·rfl
  ·omega,HM1D.out.blk.frozen _⟩)
 have HQ:=Lib.hid (HM1D.out.step_quota r.keys r.bytes r.budget)
 go_wp2_with fail
 have HBC:=Lib.hid (fun V (hV:Blk V b4 35 (Rec.cells r))=>(And.intro (show V.cell? ⟨b4,6,none⟩=some (.int .u64 (r.seq:Int)) from hV.cell 6) (show V.cell? ⟨b4,7,none⟩=some (.int .u32 (r.serial:Int)) from hV.cell 7)))
 have HNP:=Lib.hid (show ¬ s.p=b4 from fun e=>HM1.out.no HX1.out.1 (by decide) (.inl e.symm))
 refine Late.region_goes (fun V=>Blk V b4 35 (Rec.cells r)) (fun _=>false) (by kernel_rfl) ?_ (fun hH=>?_)
 ·exact HX1D.out
 refine Late.tk 0 ?_ ?_ hH ?_;rotate_left 2
 refine Late.tk 1 ?_ ?_ hH ?_;rotate_left 2
 refine Late.tk 2 ?_ ?_ hH ?_;rotate_left 2
 refine Late.tk 3 ?_ ?_ hH ?_;rotate_left 2
 refine Late.tk 5 ?_ ?_ hH ?_;rotate_left 2
 refine Late.tk 7 ?_ ?_ hH ?_;rotate_left 2
 refine Late.tk 6 ?_ ?_ hH ?_;rotate_left 2
 refine Late.tk 8 ?_ ?_ hH ?_;rotate_left 2
 rotate_left
 any_goals (intro wy hSw;(try dsimp only at hSw);have k0:=(HBC.out wy hSw).1;have k1:=(HBC.out wy hSw).2;go_simp;try (with_reducible rfl))
 try simp only [Act.put,List.setIfInBounds_toArray,List.set_cons_zero,List.set_cons_succ]
 refine Late.Goes.takeT (i:=4) (v:=_) (by simp only [List.getElem?_toArray,List.getElem?_cons_succ,List.getElem?_cons_zero];rfl) (by kernel_rfl) (by kernel_rfl) (by kernel_rfl) (by kernel_rfl) (by kernel_rfl) (by exact fun _ _ _ h=>h) (yields_quota (by rfl) _ rfl b4 3 rfl r.keys r.bytes r.budget (fun V hV=>range_three hV)) hH ?_
 try simp only [Act.put,List.setIfInBounds_toArray,List.set_cons_zero,List.set_cons_succ]
 refine Late.tk 9 ?_ ?_ hH ?_;rotate_left 2
 refine Late.tk 10 ?_ ?_ hH ?_;rotate_left 2
 rotate_left
 any_goals (intro wy hSw;(try dsimp only at hSw);have k0:=(HBC.out wy hSw).1;have k1:=(HBC.out wy hSw).2;go_simp;try (with_reducible rfl))
 try simp only [Act.put,List.setIfInBounds_toArray,List.set_cons_zero,List.set_cons_succ]
 refine Late.Goes.one (i:=11) (by kernel_rfl) (by simp only [List.getElem?_toArray,List.getElem?_cons_succ,List.getElem?_cons_zero];rfl) (fun K hK=>?_)
 clear hH
 refine Key.wp_store_blk (by rfl) 24 _ _ rfl s.p 2 [.int .i64 r.keys,.int .i64 r.bytes,.int .i64 r.budget] rfl rfl HTH.out quota_size (by simp [Value.oneCell']) ?_
 have HX2:=Lib.hid (HX1D.out.but (but_setCells s.p [.int .i64 r.keys,.int .i64 r.bytes,.int .i64 r.budget] 2 w1.drew) (fun e=>HNP.out e.symm))
 generalize w1.drew.setCells s.p 2 [.int .i64 r.keys,.int .i64 r.bytes,.int .i64 r.budget]=w2 at HQ HX2 ⊢
 refine hK.out _ _ ?_ (fun hH=>?_)
 ·exact fun _=>HX2.out
 clear hK K
 have hH:=hH rfl
 try simp only [Act.put,List.setIfInBounds_toArray,List.set_cons_zero,List.set_cons_succ]
 refine Late.tk 12 ?_ ?_ hH ?_;rotate_left 2
 refine Late.tk 13 ?_ ?_ hH ?_;rotate_left 2
 rotate_left
 any_goals (intro wy hSw;(try dsimp only at hSw);have k0:=(HBC.out wy hSw).1;have k1:=(HBC.out wy hSw).2;go_simp;try (with_reducible rfl))
 try simp only [Act.put,List.setIfInBounds_toArray,List.set_cons_zero,List.set_cons_succ]
 have k9:w2.cell? ⟨s.p,5,none⟩=some (.int .u64 (B.seq:Int)):=HQ.out.1.cell 5
 have f9:w2.frozen? ⟨s.p,5,none⟩=false:=HQ.out.1.blk.frozen 5
 refine Late.Goes.one (i:=14) (by kernel_rfl) (by simp only [List.getElem?_toArray,List.getElem?_cons_succ,List.getElem?_cons_zero];rfl) (fun K hK=>?_)
 clear hH
 go_simp
 clear k9 f9
 have HQ3:=Lib.hid (HQ.out.1.step_cell 5 (.int .u64 (r.seq:Int)) (B':={ B with q1:=r.keys,q2:=r.bytes,q3:=r.budget,seq:=r.seq }) rfl rfl)
 have HX3:=Lib.hid (HX2.out.but ((But.refl (fun k=>k=s.p) w2).setCell (p:=⟨s.p,5,none⟩) rfl (.int .u64 (r.seq:Int))) (fun e=>HNP.out e.symm))
 generalize w2.setCell ⟨s.p,5,none⟩ (.int .u64 (r.seq:Int))=w3 at HQ3 HX3 ⊢
 refine hK.out _ _ ?_ (fun hH=>?_)
 ·exact fun _=>HX3.out
 clear hK K
 have hH:=hH rfl
 try simp only [Act.put,List.setIfInBounds_toArray,List.set_cons_zero,List.set_cons_succ]
 refine Late.tk 15 ?_ ?_ hH ?_;rotate_left 2
 refine Late.tk 16 ?_ ?_ hH ?_;rotate_left 2
 rotate_left
 any_goals (intro wy hSw;(try dsimp only at hSw);have k0:=(HBC.out wy hSw).1;have k1:=(HBC.out wy hSw).2;go_simp;try (with_reducible rfl))
 try simp only [Act.put,List.setIfInBounds_toArray,List.set_cons_zero,List.set_cons_succ]
 have k9:w3.cell? ⟨s.p,6,none⟩=some (.int .u32 (B.serial:Int)):=HQ3.out.1.cell 6
 have f9:w3.frozen? ⟨s.p,6,none⟩=false:=HQ3.out.1.blk.frozen 6
 refine Late.Goes.one (i:=17) (by kernel_rfl) (by simp only [List.getElem?_toArray,List.getElem?_cons_succ,List.getElem?_cons_zero];rfl) (fun K hK=>?_)
 clear hH
 go_simp
 clear k9 f9
 have HQ4:=Lib.hid (HQ3.out.1.step_cell 6 (.int .u32 (r.serial:Int)) (B':={ B with q1:=r.keys,q2:=r.bytes,q3:=r.budget,seq:=r.seq,serial:=r.serial }) rfl rfl)
 have HX4:=Lib.hid (HX3.out.but ((But.refl (fun k=>k=s.p) w3).setCell (p:=⟨s.p,6,none⟩) rfl (.int .u32 (r.serial:Int))) (fun e=>HNP.out e.symm))
 generalize w3.setCell ⟨s.p,6,none⟩ (.int .u32 (r.serial:Int))=w4 at HQ4 HX4 ⊢
 refine hK.out _ _ ?_ (fun hH=>?_)
 ·exact fun _=>HX4.out
 clear hK K
 have hH:=hH rfl
 try simp only [Act.put,List.setIfInBounds_toArray,List.set_cons_zero,List.set_cons_succ]
 refine Late.Goes.done (by kernel_rfl) ?_ _
 go_wp2_with fail
 go_ret
 have ht:told B r=true:=by unfold told;rw [decide_eq_true HOW.out,HK.out];rfl
 unfold app appT madeT made
 rw [ht,HK.out]
 rw [show tot (all (if (1:Int)=3 then Key.put T (entOf r p) else if (1:Int)=4 then Key.del T r.key else T))=B.bytes from HO.out.bytes.symm]
 refine ⟨rfl,s,m,HQ4.out.1.more hi,?_,HS1.out.trans ((Step.of_new ((But.refl (fun _=>False) w1).drew)).trans (HQ.out.2.trans (HQ3.out.2.trans HQ4.out.2)))⟩
 exact HO.out.more.with r.seq r.serial B.charged B.toks HIS.out.seq HIS.out.serial HO.out.more.charged r.keys r.bytes r.budget
theorem apply_k2 (h:BM w s B T m i) (o:Ok B T m i) (hi:i+1≤400) (r:Rcd) (hr:Rec.Is r) (p:Spt) (hp:SpOk p) (hown:Own B r) (hk:r.kind=2) :
  Calls Tryz.prog 9 #[.pointer (some ⟨s.p,0,none⟩),Rec.rv r,spV p] w fun e w'=>e = .returned (.bool false)∧Made w s (app B T r p) (appT B T r p) (i+1) w':=by
 have HTL:=Lib.hid (show told B r=false from by unfold told;rw [hk];simp)
 have n1:(r.bucket != B.id)=false:=by simpa using hown.2.1
 have n2:((r.gen:Int) != (B.gen:Int))=false:=by have:=hown.2.2;simp;omega
 have HOW:=Lib.hid hown
 have HK:=Lib.hid hk
 clear hk
 have HCO:=Lib.hid (cost_le hown.1)
 clear hown
 have HX:=Lib.hid (Blk.two w (Rec.cells r) (spB p) 35 37)
 have HB0:=Lib.hid (((But.refl (fun _=>False) w).alloc (.cells (Rec.cells r) 35)).alloc (.cells (spB p) 37))
 have HH:=Lib.hid h
 have HO:=Lib.hid o
 have HIS:=Lib.hid hr
 have HLT:=Lib.hid h.lt
 have HSP:=Lib.hid hp
 clear h o hr hp
 change Calls _ _ #[.pointer (some ⟨s.p,0,none⟩),.agg #[.int .i64 r.kind,.int .i64 r.bucket,.int .u32 (r.gen:Int),.int .i64 r.keys,.int .i64 r.bytes,.int .i64 r.budget,.int .u64 (r.seq:Int),.int .u32 (r.serial:Int),.int .i64 r.rights,.int .u64 (r.secret:Int),.string r.key,.string r.val,.int .u64 (r.version:Int),.int .u64 (r.expiry:Int)],.agg #[.int .i64 p.1,.int .i64 p.2.1,.int .i64 p.2.2]] w _
 go_enter Tryz.func9,Tryz.ntmps9
 go_wp2_with fail
 obtain ⟨b4,hb4⟩:∃ b,b=w.heap.size:=⟨_,rfl⟩
 change Code.wp _ _ _ _ ((w.alloc (.cells (Rec.cells r) 35)).alloc (.cells (spB p) 37))
 rw [← hb4] at HX
 rw [← hb4]
 generalize (w.alloc (.cells (Rec.cells r) 35)).alloc (.cells (spB p) 37)=W at HX HB0 ⊢
 have HBL:=Lib.hid (show w.heap.size≤b4 from by omega)
 clear hb4
 have HBM:=Lib.hid (fun V (hV:But (fun _=>False) W V)=>HH.out.new (HB0.out.trans hV (fun _ _ h=>h)))
 have HXR:=Lib.hid (fun V (hV:But (fun _=>False) W V)=>show V.rangeAt b4 0 (rcs r) from blk_range0 (A:=[]) (B:=rcs r) (HX.out.1.but hV (fun h=>h)))
 have HC:=Lib.hid (fun V (hV:But (fun _=>False) W V)=>(And.intro (show V.cell? ⟨s.p,0,none⟩=some (.int .i64 B.id) from (HBM.out V hV).cell 0) (And.intro (show V.cell? ⟨s.p,1,none⟩=some (.int .u32 (B.gen:Int)) from (HBM.out V hV).cell 1) (And.intro (show V.cell? ⟨b4,1,none⟩=some (.int .i64 r.bucket) from (HX.out.1.but hV (fun h=>h)).cell 1) (show V.cell? ⟨b4,2,none⟩=some (.int .u32 (r.gen:Int)) from (HX.out.1.but hV (fun h=>h)).cell 2)))))
 refine Late.region_goes (fun V=>But (fun _=>False) W V) (fun _=>false) (by kernel_rfl) ?_ (fun hH=>?_)
 ·exact (But.refl _ W).drew
 refine Late.Goes.takeT (i:=0) (v:=_) (by simp only [List.getElem?_toArray,List.getElem?_cons_succ,List.getElem?_cons_zero];rfl) (by kernel_rfl) (by kernel_rfl) (by kernel_rfl) (by kernel_rfl) (by kernel_rfl) (by exact fun _ _ _ h=>h) (yields_rec (by rfl) _ rfl b4 0 rfl r (fun V hV=>HXR.out V hV)) hH ?_
 try simp only [Act.put,List.setIfInBounds_toArray,List.set_cons_zero,List.set_cons_succ]
 have HV:=Lib.hid hH
 refine Late.Goes.one (i:=1) (by kernel_rfl) (by simp only [List.getElem?_toArray,List.getElem?_cons_succ,List.getElem?_cons_zero];rfl) (fun K hK=>?_)
 clear hH
 go_simp
 go_at_call 28
 refine (Rec.may_any r _).mono ?_
 rintro e w1 ⟨rfl,hbe⟩
 have HV1:=Lib.hid (HV.out.trans (But.of_new hbe:But (fun _=>False) _ _) (fun _ _ h=>h))
 clear hbe
 rw [decide_eq_true HOW.out.1]
 simp only [Bool.not_true,Bool.not_false]
 refine hK.out _ _ ?_ (fun hH=>?_)
 ·exact fun _=>HV1.out
 clear hK K
 have hH:=hH rfl
 try simp only [Act.put,List.setIfInBounds_toArray,List.set_cons_zero,List.set_cons_succ]
 refine Late.tk 2 ?_ ?_ hH ?_ (hw:=by kernel_rfl);rotate_left;focus (intro wy hSw;(try dsimp only at hSw);have kk:=HC.out wy hSw;have k0:=kk.1;have k1:=kk.2.1;have k2:=kk.2.2.1;have k3:=kk.2.2.2;clear kk;go_simp;try (with_reducible rfl))
 refine Late.tk 3 ?_ ?_ hH ?_ (hw:=by kernel_rfl);rotate_left;focus (intro wy hSw;(try dsimp only at hSw);have kk:=HC.out wy hSw;have k0:=kk.1;have k1:=kk.2.1;have k2:=kk.2.2.1;have k3:=kk.2.2.2;clear kk;go_simp;try (with_reducible rfl))
 refine Late.tk 4 ?_ ?_ hH ?_ (hw:=by kernel_rfl);rotate_left;focus (intro wy hSw;(try dsimp only at hSw);have kk:=HC.out wy hSw;have k0:=kk.1;have k1:=kk.2.1;have k2:=kk.2.2.1;have k3:=kk.2.2.2;clear kk;go_simp;try (with_reducible rfl))
 refine Late.tk 5 ?_ ?_ hH ?_ (hw:=by kernel_rfl);rotate_left;focus (intro wy hSw;(try dsimp only at hSw);have kk:=HC.out wy hSw;have k0:=kk.1;have k1:=kk.2.1;have k2:=kk.2.2.1;have k3:=kk.2.2.2;clear kk;go_simp;try (with_reducible rfl))
 refine Late.tk 6 ?_ ?_ hH ?_ (hw:=by kernel_rfl);rotate_left;focus (intro wy hSw;(try dsimp only at hSw);have kk:=HC.out wy hSw;have k0:=kk.1;have k1:=kk.2.1;have k2:=kk.2.2.1;have k3:=kk.2.2.2;clear kk;go_simp;try (with_reducible rfl))
 refine Late.tk 7 ?_ ?_ hH ?_ (hw:=by kernel_rfl);rotate_left;focus (intro wy hSw;(try dsimp only at hSw);have kk:=HC.out wy hSw;have k0:=kk.1;have k1:=kk.2.1;have k2:=kk.2.2.1;have k3:=kk.2.2.2;clear kk;go_simp;try (with_reducible rfl))
 refine Late.tk 8 ?_ ?_ hH ?_ (hw:=by kernel_rfl);rotate_left;focus (intro wy hSw;(try dsimp only at hSw);have kk:=HC.out wy hSw;have k0:=kk.1;have k1:=kk.2.1;have k2:=kk.2.2.1;have k3:=kk.2.2.2;clear kk;go_simp;try (with_reducible rfl))
 refine Late.tk 9 ?_ ?_ hH ?_ (hw:=by kernel_rfl);rotate_left;focus (intro wy hSw;(try dsimp only at hSw);have kk:=HC.out wy hSw;have k0:=kk.1;have k1:=kk.2.1;have k2:=kk.2.2.1;have k3:=kk.2.2.2;clear kk;go_simp;try (with_reducible rfl))
 refine Late.tk 10 ?_ ?_ hH ?_ (hw:=by kernel_rfl);rotate_left;focus (intro wy hSw;(try dsimp only at hSw);have kk:=HC.out wy hSw;have k0:=kk.1;have k1:=kk.2.1;have k2:=kk.2.2.1;have k3:=kk.2.2.2;clear kk;go_simp;try (with_reducible rfl))
 refine Late.tk 11 ?_ ?_ hH ?_ (hw:=by kernel_rfl);rotate_left;focus (intro wy hSw;(try dsimp only at hSw);have kk:=HC.out wy hSw;have k0:=kk.1;have k1:=kk.2.1;have k2:=kk.2.2.1;have k3:=kk.2.2.2;clear kk;go_simp;try (with_reducible rfl))
 refine Late.tk 12 ?_ ?_ hH ?_ (hw:=by kernel_rfl);rotate_left;focus (intro wy hSw;(try dsimp only at hSw);have kk:=HC.out wy hSw;have k0:=kk.1;have k1:=kk.2.1;have k2:=kk.2.2.1;have k3:=kk.2.2.2;clear kk;go_simp;try (with_reducible rfl))
 refine Late.tk 13 ?_ ?_ hH ?_ (hw:=by kernel_rfl);rotate_left;focus (intro wy hSw;(try dsimp only at hSw);have kk:=HC.out wy hSw;have k0:=kk.1;have k1:=kk.2.1;have k2:=kk.2.2.1;have k3:=kk.2.2.2;clear kk;go_simp;try (with_reducible rfl))
 refine Late.tk 14 ?_ ?_ hH ?_ (hw:=by kernel_rfl);rotate_left;focus (intro wy hSw;(try dsimp only at hSw);have kk:=HC.out wy hSw;have k0:=kk.1;have k1:=kk.2.1;have k2:=kk.2.2.1;have k3:=kk.2.2.2;clear kk;go_simp;try (with_reducible rfl))
 refine Late.tk 15 ?_ ?_ hH ?_ (hw:=by kernel_rfl);rotate_left;focus (intro wy hSw;(try dsimp only at hSw);have kk:=HC.out wy hSw;have k0:=kk.1;have k1:=kk.2.1;have k2:=kk.2.2.1;have k3:=kk.2.2.2;clear kk;go_simp;try (with_reducible rfl))
 refine Late.tk 16 ?_ ?_ hH ?_ (hw:=by kernel_rfl);rotate_left;focus (intro wy hSw;(try dsimp only at hSw);have kk:=HC.out wy hSw;have k0:=kk.1;have k1:=kk.2.1;have k2:=kk.2.2.1;have k3:=kk.2.2.2;clear kk;go_simp;try (with_reducible rfl))
 refine Late.tk 17 ?_ ?_ hH ?_ (hw:=by kernel_rfl);rotate_left;focus (intro wy hSw;(try dsimp only at hSw);have kk:=HC.out wy hSw;have k0:=kk.1;have k1:=kk.2.1;have k2:=kk.2.2.1;have k3:=kk.2.2.2;clear kk;go_simp;try (with_reducible rfl))
 refine Late.tk 18 ?_ ?_ hH ?_ (hw:=by kernel_rfl);rotate_left;focus (intro wy hSw;(try dsimp only at hSw);have kk:=HC.out wy hSw;have k0:=kk.1;have k1:=kk.2.1;have k2:=kk.2.2.1;have k3:=kk.2.2.2;clear kk;go_simp;try (with_reducible rfl))
 refine Late.tk 19 ?_ ?_ hH ?_ (hw:=by kernel_rfl);rotate_left;focus (intro wy hSw;(try dsimp only at hSw);have kk:=HC.out wy hSw;have k0:=kk.1;have k1:=kk.2.1;have k2:=kk.2.2.1;have k3:=kk.2.2.2;clear kk;go_simp;try (with_reducible rfl))
 refine Late.tk 20 ?_ ?_ hH ?_ (hw:=by kernel_rfl);rotate_left;focus (intro wy hSw;(try dsimp only at hSw);have kk:=HC.out wy hSw;have k0:=kk.1;have k1:=kk.2.1;have k2:=kk.2.2.1;have k3:=kk.2.2.2;clear kk;go_simp;try (with_reducible rfl))
 try simp only [Act.put,List.setIfInBounds_toArray,List.set_cons_zero,List.set_cons_succ]
 refine Late.Goes.done (by kernel_rfl) ?_ _
 have HX1:=Lib.hid (And.intro (HX.out.1.but HV1.out (fun h=>h)) (HX.out.2.but HV1.out (fun h=>h)))
 have HM1:=Lib.hid (HBM.out _ HV1.out)
 have HS1:=Lib.hid (Step.of_new (s:=s) (HB0.out.trans HV1.out (fun _ _ h=>h)))
 have c0:w1.cell? ⟨b4,0,none⟩=some (.int .i64 2):=by
  have h:w1.cell? ⟨b4,0,none⟩=some (.int .i64 r.kind):=HX1.out.1.cell 0
  rw [HK.out] at h
  exact h
 clear n1 n2 HXR HC HBM HV1 HV hH
 go_wp2_with fail
 go_ret
 unfold app appT
 rw [HTL.out]
 exact ⟨rfl,s,m,HM1.out.more hi,HO.out.more,HS1.out⟩
theorem apply_k7 (h:BM w s B T m i) (o:Ok B T m i) (hi:i+1≤400) (r:Rcd) (hr:Rec.Is r) (p:Spt) (hp:SpOk p) (hown:Own B r) (hk:r.kind=7) :
  Calls Tryz.prog 9 #[.pointer (some ⟨s.p,0,none⟩),Rec.rv r,spV p] w fun e w'=>e = .returned (.bool false)∧Made w s (app B T r p) (appT B T r p) (i+1) w':=by
 have HTL:=Lib.hid (show told B r=false from by unfold told;rw [hk];simp)
 have n1:(r.bucket != B.id)=false:=by simpa using hown.2.1
 have n2:((r.gen:Int) != (B.gen:Int))=false:=by have:=hown.2.2;simp;omega
 have HOW:=Lib.hid hown
 have HK:=Lib.hid hk
 clear hk
 have HCO:=Lib.hid (cost_le hown.1)
 clear hown
 have HX:=Lib.hid (Blk.two w (Rec.cells r) (spB p) 35 37)
 have HB0:=Lib.hid (((But.refl (fun _=>False) w).alloc (.cells (Rec.cells r) 35)).alloc (.cells (spB p) 37))
 have HH:=Lib.hid h
 have HO:=Lib.hid o
 have HIS:=Lib.hid hr
 have HLT:=Lib.hid h.lt
 have HSP:=Lib.hid hp
 clear h o hr hp
 change Calls _ _ #[.pointer (some ⟨s.p,0,none⟩),.agg #[.int .i64 r.kind,.int .i64 r.bucket,.int .u32 (r.gen:Int),.int .i64 r.keys,.int .i64 r.bytes,.int .i64 r.budget,.int .u64 (r.seq:Int),.int .u32 (r.serial:Int),.int .i64 r.rights,.int .u64 (r.secret:Int),.string r.key,.string r.val,.int .u64 (r.version:Int),.int .u64 (r.expiry:Int)],.agg #[.int .i64 p.1,.int .i64 p.2.1,.int .i64 p.2.2]] w _
 go_enter Tryz.func9,Tryz.ntmps9
 go_wp2_with fail
 obtain ⟨b4,hb4⟩:∃ b,b=w.heap.size:=⟨_,rfl⟩
 change Code.wp _ _ _ _ ((w.alloc (.cells (Rec.cells r) 35)).alloc (.cells (spB p) 37))
 rw [← hb4] at HX
 rw [← hb4]
 generalize (w.alloc (.cells (Rec.cells r) 35)).alloc (.cells (spB p) 37)=W at HX HB0 ⊢
 have HBL:=Lib.hid (show w.heap.size≤b4 from by omega)
 clear hb4
 have HBM:=Lib.hid (fun V (hV:But (fun _=>False) W V)=>HH.out.new (HB0.out.trans hV (fun _ _ h=>h)))
 have HXR:=Lib.hid (fun V (hV:But (fun _=>False) W V)=>show V.rangeAt b4 0 (rcs r) from blk_range0 (A:=[]) (B:=rcs r) (HX.out.1.but hV (fun h=>h)))
 have HC:=Lib.hid (fun V (hV:But (fun _=>False) W V)=>(And.intro (show V.cell? ⟨s.p,0,none⟩=some (.int .i64 B.id) from (HBM.out V hV).cell 0) (And.intro (show V.cell? ⟨s.p,1,none⟩=some (.int .u32 (B.gen:Int)) from (HBM.out V hV).cell 1) (And.intro (show V.cell? ⟨b4,1,none⟩=some (.int .i64 r.bucket) from (HX.out.1.but hV (fun h=>h)).cell 1) (show V.cell? ⟨b4,2,none⟩=some (.int .u32 (r.gen:Int)) from (HX.out.1.but hV (fun h=>h)).cell 2)))))
 refine Late.region_goes (fun V=>But (fun _=>False) W V) (fun _=>false) (by kernel_rfl) ?_ (fun hH=>?_)
 ·exact (But.refl _ W).drew
 refine Late.Goes.takeT (i:=0) (v:=_) (by simp only [List.getElem?_toArray,List.getElem?_cons_succ,List.getElem?_cons_zero];rfl) (by kernel_rfl) (by kernel_rfl) (by kernel_rfl) (by kernel_rfl) (by kernel_rfl) (by exact fun _ _ _ h=>h) (yields_rec (by rfl) _ rfl b4 0 rfl r (fun V hV=>HXR.out V hV)) hH ?_
 try simp only [Act.put,List.setIfInBounds_toArray,List.set_cons_zero,List.set_cons_succ]
 have HV:=Lib.hid hH
 refine Late.Goes.one (i:=1) (by kernel_rfl) (by simp only [List.getElem?_toArray,List.getElem?_cons_succ,List.getElem?_cons_zero];rfl) (fun K hK=>?_)
 clear hH
 go_simp
 go_at_call 28
 refine (Rec.may_any r _).mono ?_
 rintro e w1 ⟨rfl,hbe⟩
 have HV1:=Lib.hid (HV.out.trans (But.of_new hbe:But (fun _=>False) _ _) (fun _ _ h=>h))
 clear hbe
 rw [decide_eq_true HOW.out.1]
 simp only [Bool.not_true,Bool.not_false]
 refine hK.out _ _ ?_ (fun hH=>?_)
 ·exact fun _=>HV1.out
 clear hK K
 have hH:=hH rfl
 try simp only [Act.put,List.setIfInBounds_toArray,List.set_cons_zero,List.set_cons_succ]
 refine Late.tk 2 ?_ ?_ hH ?_ (hw:=by kernel_rfl);rotate_left;focus (intro wy hSw;(try dsimp only at hSw);have kk:=HC.out wy hSw;have k0:=kk.1;have k1:=kk.2.1;have k2:=kk.2.2.1;have k3:=kk.2.2.2;clear kk;go_simp;try (with_reducible rfl))
 refine Late.tk 3 ?_ ?_ hH ?_ (hw:=by kernel_rfl);rotate_left;focus (intro wy hSw;(try dsimp only at hSw);have kk:=HC.out wy hSw;have k0:=kk.1;have k1:=kk.2.1;have k2:=kk.2.2.1;have k3:=kk.2.2.2;clear kk;go_simp;try (with_reducible rfl))
 refine Late.tk 4 ?_ ?_ hH ?_ (hw:=by kernel_rfl);rotate_left;focus (intro wy hSw;(try dsimp only at hSw);have kk:=HC.out wy hSw;have k0:=kk.1;have k1:=kk.2.1;have k2:=kk.2.2.1;have k3:=kk.2.2.2;clear kk;go_simp;try (with_reducible rfl))
 refine Late.tk 5 ?_ ?_ hH ?_ (hw:=by kernel_rfl);rotate_left;focus (intro wy hSw;(try dsimp only at hSw);have kk:=HC.out wy hSw;have k0:=kk.1;have k1:=kk.2.1;have k2:=kk.2.2.1;have k3:=kk.2.2.2;clear kk;go_simp;try (with_reducible rfl))
 refine Late.tk 6 ?_ ?_ hH ?_ (hw:=by kernel_rfl);rotate_left;focus (intro wy hSw;(try dsimp only at hSw);have kk:=HC.out wy hSw;have k0:=kk.1;have k1:=kk.2.1;have k2:=kk.2.2.1;have k3:=kk.2.2.2;clear kk;go_simp;try (with_reducible rfl))
 refine Late.tk 7 ?_ ?_ hH ?_ (hw:=by kernel_rfl);rotate_left;focus (intro wy hSw;(try dsimp only at hSw);have kk:=HC.out wy hSw;have k0:=kk.1;have k1:=kk.2.1;have k2:=kk.2.2.1;have k3:=kk.2.2.2;clear kk;go_simp;try (with_reducible rfl))
 refine Late.tk 8 ?_ ?_ hH ?_ (hw:=by kernel_rfl);rotate_left;focus (intro wy hSw;(try dsimp only at hSw);have kk:=HC.out wy hSw;have k0:=kk.1;have k1:=kk.2.1;have k2:=kk.2.2.1;have k3:=kk.2.2.2;clear kk;go_simp;try (with_reducible rfl))
 refine Late.tk 9 ?_ ?_ hH ?_ (hw:=by kernel_rfl);rotate_left;focus (intro wy hSw;(try dsimp only at hSw);have kk:=HC.out wy hSw;have k0:=kk.1;have k1:=kk.2.1;have k2:=kk.2.2.1;have k3:=kk.2.2.2;clear kk;go_simp;try (with_reducible rfl))
 refine Late.tk 10 ?_ ?_ hH ?_ (hw:=by kernel_rfl);rotate_left;focus (intro wy hSw;(try dsimp only at hSw);have kk:=HC.out wy hSw;have k0:=kk.1;have k1:=kk.2.1;have k2:=kk.2.2.1;have k3:=kk.2.2.2;clear kk;go_simp;try (with_reducible rfl))
 refine Late.tk 11 ?_ ?_ hH ?_ (hw:=by kernel_rfl);rotate_left;focus (intro wy hSw;(try dsimp only at hSw);have kk:=HC.out wy hSw;have k0:=kk.1;have k1:=kk.2.1;have k2:=kk.2.2.1;have k3:=kk.2.2.2;clear kk;go_simp;try (with_reducible rfl))
 refine Late.tk 12 ?_ ?_ hH ?_ (hw:=by kernel_rfl);rotate_left;focus (intro wy hSw;(try dsimp only at hSw);have kk:=HC.out wy hSw;have k0:=kk.1;have k1:=kk.2.1;have k2:=kk.2.2.1;have k3:=kk.2.2.2;clear kk;go_simp;try (with_reducible rfl))
 refine Late.tk 13 ?_ ?_ hH ?_ (hw:=by kernel_rfl);rotate_left;focus (intro wy hSw;(try dsimp only at hSw);have kk:=HC.out wy hSw;have k0:=kk.1;have k1:=kk.2.1;have k2:=kk.2.2.1;have k3:=kk.2.2.2;clear kk;go_simp;try (with_reducible rfl))
 refine Late.tk 14 ?_ ?_ hH ?_ (hw:=by kernel_rfl);rotate_left;focus (intro wy hSw;(try dsimp only at hSw);have kk:=HC.out wy hSw;have k0:=kk.1;have k1:=kk.2.1;have k2:=kk.2.2.1;have k3:=kk.2.2.2;clear kk;go_simp;try (with_reducible rfl))
 refine Late.tk 15 ?_ ?_ hH ?_ (hw:=by kernel_rfl);rotate_left;focus (intro wy hSw;(try dsimp only at hSw);have kk:=HC.out wy hSw;have k0:=kk.1;have k1:=kk.2.1;have k2:=kk.2.2.1;have k3:=kk.2.2.2;clear kk;go_simp;try (with_reducible rfl))
 refine Late.tk 16 ?_ ?_ hH ?_ (hw:=by kernel_rfl);rotate_left;focus (intro wy hSw;(try dsimp only at hSw);have kk:=HC.out wy hSw;have k0:=kk.1;have k1:=kk.2.1;have k2:=kk.2.2.1;have k3:=kk.2.2.2;clear kk;go_simp;try (with_reducible rfl))
 refine Late.tk 17 ?_ ?_ hH ?_ (hw:=by kernel_rfl);rotate_left;focus (intro wy hSw;(try dsimp only at hSw);have kk:=HC.out wy hSw;have k0:=kk.1;have k1:=kk.2.1;have k2:=kk.2.2.1;have k3:=kk.2.2.2;clear kk;go_simp;try (with_reducible rfl))
 refine Late.tk 18 ?_ ?_ hH ?_ (hw:=by kernel_rfl);rotate_left;focus (intro wy hSw;(try dsimp only at hSw);have kk:=HC.out wy hSw;have k0:=kk.1;have k1:=kk.2.1;have k2:=kk.2.2.1;have k3:=kk.2.2.2;clear kk;go_simp;try (with_reducible rfl))
 refine Late.tk 19 ?_ ?_ hH ?_ (hw:=by kernel_rfl);rotate_left;focus (intro wy hSw;(try dsimp only at hSw);have kk:=HC.out wy hSw;have k0:=kk.1;have k1:=kk.2.1;have k2:=kk.2.2.1;have k3:=kk.2.2.2;clear kk;go_simp;try (with_reducible rfl))
 refine Late.tk 20 ?_ ?_ hH ?_ (hw:=by kernel_rfl);rotate_left;focus (intro wy hSw;(try dsimp only at hSw);have kk:=HC.out wy hSw;have k0:=kk.1;have k1:=kk.2.1;have k2:=kk.2.2.1;have k3:=kk.2.2.2;clear kk;go_simp;try (with_reducible rfl))
 try simp only [Act.put,List.setIfInBounds_toArray,List.set_cons_zero,List.set_cons_succ]
 refine Late.Goes.done (by kernel_rfl) ?_ _
 have HX1:=Lib.hid (And.intro (HX.out.1.but HV1.out (fun h=>h)) (HX.out.2.but HV1.out (fun h=>h)))
 have HM1:=Lib.hid (HBM.out _ HV1.out)
 have HS1:=Lib.hid (Step.of_new (s:=s) (HB0.out.trans HV1.out (fun _ _ h=>h)))
 have c0:w1.cell? ⟨b4,0,none⟩=some (.int .i64 7):=by
  have h:w1.cell? ⟨b4,0,none⟩=some (.int .i64 r.kind):=HX1.out.1.cell 0
  rw [HK.out] at h
  exact h
 clear n1 n2 HXR HC HBM HV1 HV hH
 go_wp2_with fail
 go_ret
 unfold app appT
 rw [HTL.out]
 exact ⟨rfl,s,m,HM1.out.more hi,HO.out.more,HS1.out⟩
theorem apply_any (h:BM w s B T m i) (o:Ok B T m i) (hi:i+1≤400) (r:Rcd) (hr:Rec.Is r) (p:Spt) (hp:SpOk p) :
  Calls Tryz.prog 9 #[.pointer (some ⟨s.p,0,none⟩),Rec.rv r,spV p] w fun e w'=>e = .returned (.bool (told B r))∧Made w s (app B T r p) (appT B T r p) (i+1) w':=by
 by_cases hm:Rec.May r
 ·by_cases hid:r.bucket=B.id
  ·by_cases hg:r.gen=B.gen
   ·have hown:Own B r:=⟨hm,hid,hg⟩
    have tl:∀ b,(r.kind == 1 || r.kind == 3 || r.kind == 4 || (r.kind == 5 && decide (Rgt.putErr r.serial r.rights B.toks=0)) || r.kind == 6)=b→told B r=b:=fun b hb=>by unfold told;rw [decide_eq_true hown,hb];rfl
    have hk:r.kind=1∨r.kind=2∨r.kind=3∨r.kind=4∨r.kind=5∨r.kind=6∨r.kind=7:=by have:=hm.1;have:=hm.2.1;omega
    rcases hk with hk|hk|hk|hk|hk|hk|hk
    ·rw [tl true (by rw [hk];rfl)];exact apply_meta h o hi r hr p hp hown hk
    ·rw [tl false (by rw [hk];rfl)];exact apply_k2 h o hi r hr p hp hown hk
    ·rw [tl true (by rw [hk];rfl)];exact apply_put h o hi r hr p hp hown hk
    ·rw [tl true (by rw [hk];rfl)];exact apply_del h o hi r hr p hp hown hk
    ·by_cases hpe:Rgt.putErr r.serial r.rights B.toks=0
     ·rw [tl true (by rw [hk,decide_eq_true hpe];rfl)];exact apply_tok h o hi r hr p hp hown hk hpe
     ·rw [tl false (by rw [hk,decide_eq_false hpe];rfl)];exact apply_full h o hi r hr p hp hown hk hpe
    ·rw [tl true (by rw [hk];rfl)];exact apply_rev h o hi r hr p hp hown hk
    ·rw [tl false (by rw [hk];rfl)];exact apply_k7 h o hi r hr p hp hown hk
   ·rw [show told B r=false from by unfold told;rw [decide_eq_false (fun h:Own B r=>hg h.2.2)];rfl]
    exact apply_gen h o hi r hr p hp hm hid hg
  ·rw [show told B r=false from by unfold told;rw [decide_eq_false (fun h:Own B r=>hid h.2.1)];rfl]
   exact apply_id h o hi r hr p hp hm hid
 ·rw [show told B r=false from by unfold told;rw [decide_eq_false (fun h:Own B r=>hm h.1)];rfl]
  exact apply_may h o hi r hr p hp hm
end
end Go.Proofs.YtgjofinbdigmcaaGreat.Buk

/- Contract of the document's Apply. -/
import Derived.Test.YtgjofinbdigmcaaGreatG36
import Derived.Test.YtgjofinbdigmcaaGreatG37
set_option linter.unusedSimpArgs false
set_option linter.unusedVariables false
set_option maxHeartbeats 4000000
set_option maxRecDepth 100000
namespace Go.Proofs.YtgjofinbdigmcaaGreat.Buk
open Go.Proofs.YtgjofinbdigmcaaGreat.Mem
open Go.ChangeShapes Go.WideShapes Go.ChangeAt Go.RowKit
def keyOf (r:Rcd) (p:Spt):RK:=⟨r.key,r.val,r.version,r.expiry,p⟩
def kmade (r:Rcd) (p:Spt) (Ks:List RK):List RK:=if r.kind=3 then kput (keyOf r p) Ks else if r.kind=4 then kdrop r.key Ks else Ks
def kapp (B:Bk) (r:Rcd) (p:Spt) (Ks:List RK):List RK:=if told B r then kmade r p Ks else Ks
def bapp (B:Bk) (r:Rcd):Bk:=if told B r then made B r else B
theorem tok_form {B:Bk} {r:Rcd} (ho:Own B r) (hk:r.kind=5):r=tokR B.id B.gen (tokOf r):=by
 have h:=ho.1.2.2.2.2.2.1
 unfold Rec.named at h
 rw [if_neg (by rw [hk];decide),if_neg (by rw [hk];decide),if_neg (by rw [hk];decide),if_pos hk] at h
 rw [← ho.2.1,← ho.2.2]
 unfold tokR tokOf
 rw [← hk]
 exact h
section
variable {w w':World} {rp:Nat} {kv tv:Value} {B:Bk} {Ks:List RK}
def RSays (w:World) (rp:Nat) (B:Bk) (Ks:List RK) (w':World):Prop:=(∃ kv' tv',RM w' rp kv' tv' B Ks)∧But (fun k=>k=rp) w w'
theorem RM.set3 (h:RM w rp kv tv B Ks) (a b c:Int):RM (w.setCells rp 2 [.int .i64 a,.int .i64 b,.int .i64 c]) rp kv tv { B with q1:=a,q2:=b,q3:=c } Ks∧But (fun k=>k=rp) w (w.setCells rp 2 [.int .i64 a,.int .i64 b,.int .i64 c]):=by
 have h1:=h.set_ 2 (.int .i64 a) (B':={ B with q1:=a }) rfl rfl rfl rfl
 have h2:=h1.1.set_ 3 (.int .i64 b) (B':={ B with q1:=a,q2:=b }) rfl rfl rfl rfl
 have h3:=h2.1.set_ 4 (.int .i64 c) (B':={ B with q1:=a,q2:=b,q3:=c }) rfl rfl rfl rfl
 exact ⟨h3.1,h1.2.trans' (h2.2.trans' h3.2)⟩
theorem rno (h:RM w rp kv tv B Ks) {w':World} (hb:But (fun _=>False) w w') {r:Rcd} {p:Spt} (ht:told B r=false):RSays w rp (bapp B r) (kapp B r p Ks) w':=by
 unfold bapp kapp
 rw [ht]
 exact ⟨⟨kv,tv,h.new hb⟩,hb.mono (fun _ _ h=>h.elim)⟩
structure ROk (B:Bk) (Ks:List RK):Prop where
 toks:Rgt.Good B.toks
 len:Ks.length≤800
 seq:B.seq < 18446744073709551616
 serial:B.serial < 4294967296
 charged:0≤B.charged∧B.charged≤1000000000
theorem rap_may (h:RM w rp kv tv B Ks) (o:ROk B Ks) (r:Rcd) (hr:Rec.Is r) (p:Spt) (hp:SpOk p) (hm:¬ Rec.May r) :
  Calls Tryz.prog 10 #[.pointer (some ⟨rp,0,none⟩),Rec.rv r,spV p] w fun e w'=>e = .returned (.bool false)∧RSays w rp (bapp B r) (kapp B r p Ks) w':=by
 have HT:=Lib.hid (show told B r=false from by unfold told;rw [decide_eq_false (fun h:Own B r=>hm h.1)];rfl)
 have HX:=Lib.hid (Blk.two w (Rec.cells r) (spB p) 35 37)
 have HB0:=Lib.hid (((But.refl (fun _=>False) w).alloc (.cells (Rec.cells r) 35)).alloc (.cells (spB p) 37))
 have HH:=Lib.hid h
 have HO:=Lib.hid o
 have HIS:=Lib.hid hr
 have hrlt:=h.lt
 clear h o hr hp
 change Calls _ _ #[.pointer (some ⟨rp,0,none⟩),.agg #[.int .i64 r.kind,.int .i64 r.bucket,.int .u32 (r.gen:Int),.int .i64 r.keys,.int .i64 r.bytes,.int .i64 r.budget,.int .u64 (r.seq:Int),.int .u32 (r.serial:Int),.int .i64 r.rights,.int .u64 (r.secret:Int),.string r.key,.string r.val,.int .u64 (r.version:Int),.int .u64 (r.expiry:Int)],.agg #[.int .i64 p.1,.int .i64 p.2.1,.int .i64 p.2.2]] w _
 go_enter Tryz.func10,Tryz.ntmps10
 go_wp2_with (refine wpList_load_row rfl 35 _ rfl w.heap.size rfl 35 _ (0,0) _ HX.out.1 Tryz.underlying35 rfl Rec.rec_size ?_)
 change Calls _ _ _ ((w.alloc (.cells (Rec.cells r) 35)).alloc (.cells (spB p) 37)) _
 obtain ⟨b4,hb4⟩:∃ b,b=w.heap.size:=⟨_,rfl⟩
 rw [← hb4] at HX
 rw [← hb4]
 generalize (w.alloc (.cells (Rec.cells r) 35)).alloc (.cells (spB p) 37)=W at HX HB0 ⊢
 have HNR:=Lib.hid (show b4≠rp∧b4+1≠rp from by omega)
 clear hb4 hrlt
 refine (Rec.refMay_any r _).mono ?_
 rintro e w1 ⟨rfl,hbe⟩
 have hv1:But (fun _=>False) W w1:=But.of_new hbe
 have HX1:=Lib.hid (And.intro (HX.out.1.but hv1 (fun h=>h)) (HX.out.2.but hv1 (fun h=>h)))
 have HB1:=Lib.hid (HB0.out.trans hv1 (fun _ _ h=>h))
 have HM1:=Lib.hid (HH.out.new HB1.out)
 clear hbe hv1 HX HB0
 rw [decide_eq_false hm]
 have HC:=Lib.hid (fun V (hV:But (fun _=>False) w1 V)=>(And.intro (show V.cell? ⟨rp,0,none⟩=some (.int .i64 B.id) from (HM1.out.new hV).blk.cell 0) (And.intro (show V.cell? ⟨rp,1,none⟩=some (.int .u32 (B.gen:Int)) from (HM1.out.new hV).blk.cell 1) (And.intro (show V.cell? ⟨b4,1,none⟩=some (.int .i64 r.bucket) from (HX1.out.1.but hV (fun h=>h)).cell 1) (show V.cell? ⟨b4,2,none⟩=some (.int .u32 (r.gen:Int)) from (HX1.out.1.but hV (fun h=>h)).cell 2)))))
 go_wp2_with fail
 refine Late.region_goes (fun V=>But (fun _=>False) w1 V) (fun _=>false) (by kernel_rfl) ?_ (fun hH=>?_)
 ·exact (But.refl _ w1).drew
 refine Late.tk 0 ?_ ?_ hH ?_ (hw:=by kernel_rfl);rotate_left;focus (intro wy hSw;(try dsimp only at hSw);obtain ⟨k0,k1,k2,k3⟩:=HC.out wy hSw;go_simp;try (with_reducible rfl))
 refine Late.tk 1 ?_ ?_ hH ?_ (hw:=by kernel_rfl);rotate_left;focus (intro wy hSw;(try dsimp only at hSw);obtain ⟨k0,k1,k2,k3⟩:=HC.out wy hSw;go_simp;try (with_reducible rfl))
 refine Late.tk 2 ?_ ?_ hH ?_ (hw:=by kernel_rfl);rotate_left;focus (intro wy hSw;(try dsimp only at hSw);obtain ⟨k0,k1,k2,k3⟩:=HC.out wy hSw;go_simp;try (with_reducible rfl))
 try simp only [Act.put,List.setIfInBounds_toArray,List.set_cons_zero,List.set_cons_succ]
 refine Late.tn 3 hH ?_
 try simp only [Act.put,List.setIfInBounds_toArray,List.set_cons_zero,List.set_cons_succ]
 refine Late.tn 4 hH ?_
 try simp only [Act.put,List.setIfInBounds_toArray,List.set_cons_zero,List.set_cons_succ]
 refine Late.tn 5 hH ?_
 try simp only [Act.put,List.setIfInBounds_toArray,List.set_cons_zero,List.set_cons_succ]
 refine Late.tn 6 hH ?_
 try simp only [Act.put,List.setIfInBounds_toArray,List.set_cons_zero,List.set_cons_succ]
 refine Late.tn 7 hH ?_
 try simp only [Act.put,List.setIfInBounds_toArray,List.set_cons_zero,List.set_cons_succ]
 refine Late.tn 8 hH ?_
 try simp only [Act.put,List.setIfInBounds_toArray,List.set_cons_zero,List.set_cons_succ]
 refine Late.tn 9 hH ?_
 try simp only [Act.put,List.setIfInBounds_toArray,List.set_cons_zero,List.set_cons_succ]
 refine Late.tk 10 ?_ ?_ hH ?_ (hw:=by kernel_rfl);rotate_left;focus (intro wy hSw;(try dsimp only at hSw);obtain ⟨k0,k1,k2,k3⟩:=HC.out wy hSw;go_simp;try (with_reducible rfl))
 refine Late.tk 11 ?_ ?_ hH ?_ (hw:=by kernel_rfl);rotate_left;focus (intro wy hSw;(try dsimp only at hSw);obtain ⟨k0,k1,k2,k3⟩:=HC.out wy hSw;go_simp;try (with_reducible rfl))
 try simp only [Act.put,List.setIfInBounds_toArray,List.set_cons_zero,List.set_cons_succ]
 refine Late.tn 12 hH ?_
 try simp only [Act.put,List.setIfInBounds_toArray,List.set_cons_zero,List.set_cons_succ]
 refine Late.tn 13 hH ?_
 try simp only [Act.put,List.setIfInBounds_toArray,List.set_cons_zero,List.set_cons_succ]
 refine Late.tn 14 hH ?_
 try simp only [Act.put,List.setIfInBounds_toArray,List.set_cons_zero,List.set_cons_succ]
 refine Late.tn 15 hH ?_
 try simp only [Act.put,List.setIfInBounds_toArray,List.set_cons_zero,List.set_cons_succ]
 refine Late.tn 16 hH ?_
 try simp only [Act.put,List.setIfInBounds_toArray,List.set_cons_zero,List.set_cons_succ]
 refine Late.tn 17 hH ?_
 try simp only [Act.put,List.setIfInBounds_toArray,List.set_cons_zero,List.set_cons_succ]
 refine Late.tn 18 hH ?_
 try simp only [Act.put,List.setIfInBounds_toArray,List.set_cons_zero,List.set_cons_succ]
 refine Late.tk 19 ?_ ?_ hH ?_ (hw:=by kernel_rfl);rotate_left;focus (intro wy hSw;(try dsimp only at hSw);obtain ⟨k0,k1,k2,k3⟩:=HC.out wy hSw;go_simp;try (with_reducible rfl))
 try simp only [Act.put,List.setIfInBounds_toArray,List.set_cons_zero,List.set_cons_succ]
 refine Late.Goes.done (by kernel_rfl) ?_ _
 have HV:=Lib.hid hH
 clear hH
 go_wp2_with fail
 go_ret
 exact ⟨rfl,rno HH.out (HB1.out.trans HV.out (fun _ _ h=>h)) HT.out⟩
theorem rap_id (h:RM w rp kv tv B Ks) (o:ROk B Ks) (r:Rcd) (hr:Rec.Is r) (p:Spt) (hp:SpOk p) (hm:Rec.May r) (hid:r.bucket≠B.id) :
  Calls Tryz.prog 10 #[.pointer (some ⟨rp,0,none⟩),Rec.rv r,spV p] w fun e w'=>e = .returned (.bool false)∧RSays w rp (bapp B r) (kapp B r p Ks) w':=by
 have HT:=Lib.hid (show told B r=false from by unfold told;rw [decide_eq_false (fun h:Own B r=>hid h.2.1)];rfl)
 have n1:(r.bucket != B.id)=true:=by simpa using hid
 have HX:=Lib.hid (Blk.two w (Rec.cells r) (spB p) 35 37)
 have HB0:=Lib.hid (((But.refl (fun _=>False) w).alloc (.cells (Rec.cells r) 35)).alloc (.cells (spB p) 37))
 have HH:=Lib.hid h
 have HO:=Lib.hid o
 have HIS:=Lib.hid hr
 have hrlt:=h.lt
 clear h o hr hp
 change Calls _ _ #[.pointer (some ⟨rp,0,none⟩),.agg #[.int .i64 r.kind,.int .i64 r.bucket,.int .u32 (r.gen:Int),.int .i64 r.keys,.int .i64 r.bytes,.int .i64 r.budget,.int .u64 (r.seq:Int),.int .u32 (r.serial:Int),.int .i64 r.rights,.int .u64 (r.secret:Int),.string r.key,.string r.val,.int .u64 (r.version:Int),.int .u64 (r.expiry:Int)],.agg #[.int .i64 p.1,.int .i64 p.2.1,.int .i64 p.2.2]] w _
 go_enter Tryz.func10,Tryz.ntmps10
 go_wp2_with (refine wpList_load_row rfl 35 _ rfl w.heap.size rfl 35 _ (0,0) _ HX.out.1 Tryz.underlying35 rfl Rec.rec_size ?_)
 change Calls _ _ _ ((w.alloc (.cells (Rec.cells r) 35)).alloc (.cells (spB p) 37)) _
 obtain ⟨b4,hb4⟩:∃ b,b=w.heap.size:=⟨_,rfl⟩
 rw [← hb4] at HX
 rw [← hb4]
 generalize (w.alloc (.cells (Rec.cells r) 35)).alloc (.cells (spB p) 37)=W at HX HB0 ⊢
 have HNR:=Lib.hid (show b4≠rp∧b4+1≠rp from by omega)
 clear hb4 hrlt
 refine (Rec.refMay_any r _).mono ?_
 rintro e w1 ⟨rfl,hbe⟩
 have hv1:But (fun _=>False) W w1:=But.of_new hbe
 have HX1:=Lib.hid (And.intro (HX.out.1.but hv1 (fun h=>h)) (HX.out.2.but hv1 (fun h=>h)))
 have HB1:=Lib.hid (HB0.out.trans hv1 (fun _ _ h=>h))
 have HM1:=Lib.hid (HH.out.new HB1.out)
 clear hbe hv1 HX HB0
 rw [decide_eq_true hm]
 have HC:=Lib.hid (fun V (hV:But (fun _=>False) w1 V)=>(And.intro (show V.cell? ⟨rp,0,none⟩=some (.int .i64 B.id) from (HM1.out.new hV).blk.cell 0) (And.intro (show V.cell? ⟨rp,1,none⟩=some (.int .u32 (B.gen:Int)) from (HM1.out.new hV).blk.cell 1) (And.intro (show V.cell? ⟨b4,1,none⟩=some (.int .i64 r.bucket) from (HX1.out.1.but hV (fun h=>h)).cell 1) (show V.cell? ⟨b4,2,none⟩=some (.int .u32 (r.gen:Int)) from (HX1.out.1.but hV (fun h=>h)).cell 2)))))
 go_wp2_with fail
 refine Late.region_goes (fun V=>But (fun _=>False) w1 V) (fun _=>false) (by kernel_rfl) ?_ (fun hH=>?_)
 ·exact (But.refl _ w1).drew
 refine Late.tk 0 ?_ ?_ hH ?_ (hw:=by kernel_rfl);rotate_left;focus (intro wy hSw;(try dsimp only at hSw);obtain ⟨k0,k1,k2,k3⟩:=HC.out wy hSw;go_simp;try (with_reducible rfl))
 refine Late.tk 1 ?_ ?_ hH ?_ (hw:=by kernel_rfl);rotate_left;focus (intro wy hSw;(try dsimp only at hSw);obtain ⟨k0,k1,k2,k3⟩:=HC.out wy hSw;go_simp;try (with_reducible rfl))
 refine Late.tk 2 ?_ ?_ hH ?_ (hw:=by kernel_rfl);rotate_left;focus (intro wy hSw;(try dsimp only at hSw);obtain ⟨k0,k1,k2,k3⟩:=HC.out wy hSw;go_simp;try (with_reducible rfl))
 refine Late.tk 3 ?_ ?_ hH ?_ (hw:=by kernel_rfl);rotate_left;focus (intro wy hSw;(try dsimp only at hSw);obtain ⟨k0,k1,k2,k3⟩:=HC.out wy hSw;go_simp;try (with_reducible rfl))
 refine Late.tk 4 ?_ ?_ hH ?_ (hw:=by kernel_rfl);rotate_left;focus (intro wy hSw;(try dsimp only at hSw);obtain ⟨k0,k1,k2,k3⟩:=HC.out wy hSw;go_simp;try (with_reducible rfl))
 refine Late.tk 5 ?_ ?_ hH ?_ (hw:=by kernel_rfl);rotate_left;focus (intro wy hSw;(try dsimp only at hSw);obtain ⟨k0,k1,k2,k3⟩:=HC.out wy hSw;go_simp;try (with_reducible rfl))
 refine Late.tk 6 ?_ ?_ hH ?_ (hw:=by kernel_rfl);rotate_left;focus (intro wy hSw;(try dsimp only at hSw);obtain ⟨k0,k1,k2,k3⟩:=HC.out wy hSw;go_simp;try (with_reducible rfl))
 refine Late.tk 7 ?_ ?_ hH ?_ (hw:=by kernel_rfl);rotate_left;focus (intro wy hSw;(try dsimp only at hSw);obtain ⟨k0,k1,k2,k3⟩:=HC.out wy hSw;go_simp;try (with_reducible rfl))
 refine Late.tk 8 ?_ ?_ hH ?_ (hw:=by kernel_rfl);rotate_left;focus (intro wy hSw;(try dsimp only at hSw);obtain ⟨k0,k1,k2,k3⟩:=HC.out wy hSw;go_simp;try (with_reducible rfl))
 refine Late.tk 9 ?_ ?_ hH ?_ (hw:=by kernel_rfl);rotate_left;focus (intro wy hSw;(try dsimp only at hSw);obtain ⟨k0,k1,k2,k3⟩:=HC.out wy hSw;go_simp;try (with_reducible rfl))
 refine Late.tk 10 ?_ ?_ hH ?_ (hw:=by kernel_rfl);rotate_left;focus (intro wy hSw;(try dsimp only at hSw);obtain ⟨k0,k1,k2,k3⟩:=HC.out wy hSw;go_simp;try (with_reducible rfl))
 refine Late.tk 11 ?_ ?_ hH ?_ (hw:=by kernel_rfl);rotate_left;focus (intro wy hSw;(try dsimp only at hSw);obtain ⟨k0,k1,k2,k3⟩:=HC.out wy hSw;go_simp;try (with_reducible rfl))
 try simp only [Act.put,List.setIfInBounds_toArray,List.set_cons_zero,List.set_cons_succ]
 refine Late.tn 12 hH ?_
 try simp only [Act.put,List.setIfInBounds_toArray,List.set_cons_zero,List.set_cons_succ]
 refine Late.tn 13 hH ?_
 try simp only [Act.put,List.setIfInBounds_toArray,List.set_cons_zero,List.set_cons_succ]
 refine Late.tn 14 hH ?_
 try simp only [Act.put,List.setIfInBounds_toArray,List.set_cons_zero,List.set_cons_succ]
 refine Late.tn 15 hH ?_
 try simp only [Act.put,List.setIfInBounds_toArray,List.set_cons_zero,List.set_cons_succ]
 refine Late.tn 16 hH ?_
 try simp only [Act.put,List.setIfInBounds_toArray,List.set_cons_zero,List.set_cons_succ]
 refine Late.tn 17 hH ?_
 try simp only [Act.put,List.setIfInBounds_toArray,List.set_cons_zero,List.set_cons_succ]
 refine Late.tn 18 hH ?_
 try simp only [Act.put,List.setIfInBounds_toArray,List.set_cons_zero,List.set_cons_succ]
 refine Late.tk 19 ?_ ?_ hH ?_ (hw:=by kernel_rfl);rotate_left;focus (intro wy hSw;(try dsimp only at hSw);obtain ⟨k0,k1,k2,k3⟩:=HC.out wy hSw;go_simp;try (with_reducible rfl))
 try simp only [Act.put,List.setIfInBounds_toArray,List.set_cons_zero,List.set_cons_succ]
 refine Late.Goes.done (by kernel_rfl) ?_ _
 have HV:=Lib.hid hH
 clear hH
 go_wp2_with fail
 go_ret
 exact ⟨rfl,rno HH.out (HB1.out.trans HV.out (fun _ _ h=>h)) HT.out⟩
theorem rap_gen (h:RM w rp kv tv B Ks) (o:ROk B Ks) (r:Rcd) (hr:Rec.Is r) (p:Spt) (hp:SpOk p) (hm:Rec.May r) (hid:r.bucket=B.id) (hg:r.gen≠B.gen) :
  Calls Tryz.prog 10 #[.pointer (some ⟨rp,0,none⟩),Rec.rv r,spV p] w fun e w'=>e = .returned (.bool false)∧RSays w rp (bapp B r) (kapp B r p Ks) w':=by
 have HT:=Lib.hid (show told B r=false from by unfold told;rw [decide_eq_false (fun h:Own B r=>hg h.2.2)];rfl)
 have n1:(r.bucket != B.id)=false:=by simpa using hid
 have n2:((r.gen:Int) != (B.gen:Int))=true:=by simp;omega
 clear hid
 have HX:=Lib.hid (Blk.two w (Rec.cells r) (spB p) 35 37)
 have HB0:=Lib.hid (((But.refl (fun _=>False) w).alloc (.cells (Rec.cells r) 35)).alloc (.cells (spB p) 37))
 have HH:=Lib.hid h
 have HO:=Lib.hid o
 have HIS:=Lib.hid hr
 have hrlt:=h.lt
 clear h o hr hp
 change Calls _ _ #[.pointer (some ⟨rp,0,none⟩),.agg #[.int .i64 r.kind,.int .i64 r.bucket,.int .u32 (r.gen:Int),.int .i64 r.keys,.int .i64 r.bytes,.int .i64 r.budget,.int .u64 (r.seq:Int),.int .u32 (r.serial:Int),.int .i64 r.rights,.int .u64 (r.secret:Int),.string r.key,.string r.val,.int .u64 (r.version:Int),.int .u64 (r.expiry:Int)],.agg #[.int .i64 p.1,.int .i64 p.2.1,.int .i64 p.2.2]] w _
 go_enter Tryz.func10,Tryz.ntmps10
 go_wp2_with (refine wpList_load_row rfl 35 _ rfl w.heap.size rfl 35 _ (0,0) _ HX.out.1 Tryz.underlying35 rfl Rec.rec_size ?_)
 change Calls _ _ _ ((w.alloc (.cells (Rec.cells r) 35)).alloc (.cells (spB p) 37)) _
 obtain ⟨b4,hb4⟩:∃ b,b=w.heap.size:=⟨_,rfl⟩
 rw [← hb4] at HX
 rw [← hb4]
 generalize (w.alloc (.cells (Rec.cells r) 35)).alloc (.cells (spB p) 37)=W at HX HB0 ⊢
 have HNR:=Lib.hid (show b4≠rp∧b4+1≠rp from by omega)
 clear hb4 hrlt
 refine (Rec.refMay_any r _).mono ?_
 rintro e w1 ⟨rfl,hbe⟩
 have hv1:But (fun _=>False) W w1:=But.of_new hbe
 have HX1:=Lib.hid (And.intro (HX.out.1.but hv1 (fun h=>h)) (HX.out.2.but hv1 (fun h=>h)))
 have HB1:=Lib.hid (HB0.out.trans hv1 (fun _ _ h=>h))
 have HM1:=Lib.hid (HH.out.new HB1.out)
 clear hbe hv1 HX HB0
 rw [decide_eq_true hm]
 have HC:=Lib.hid (fun V (hV:But (fun _=>False) w1 V)=>(And.intro (show V.cell? ⟨rp,0,none⟩=some (.int .i64 B.id) from (HM1.out.new hV).blk.cell 0) (And.intro (show V.cell? ⟨rp,1,none⟩=some (.int .u32 (B.gen:Int)) from (HM1.out.new hV).blk.cell 1) (And.intro (show V.cell? ⟨b4,1,none⟩=some (.int .i64 r.bucket) from (HX1.out.1.but hV (fun h=>h)).cell 1) (show V.cell? ⟨b4,2,none⟩=some (.int .u32 (r.gen:Int)) from (HX1.out.1.but hV (fun h=>h)).cell 2)))))
 go_wp2_with fail
 refine Late.region_goes (fun V=>But (fun _=>False) w1 V) (fun _=>false) (by kernel_rfl) ?_ (fun hH=>?_)
 ·exact (But.refl _ w1).drew
 refine Late.tk 0 ?_ ?_ hH ?_ (hw:=by kernel_rfl);rotate_left;focus (intro wy hSw;(try dsimp only at hSw);obtain ⟨k0,k1,k2,k3⟩:=HC.out wy hSw;go_simp;try (with_reducible rfl))
 refine Late.tk 1 ?_ ?_ hH ?_ (hw:=by kernel_rfl);rotate_left;focus (intro wy hSw;(try dsimp only at hSw);obtain ⟨k0,k1,k2,k3⟩:=HC.out wy hSw;go_simp;try (with_reducible rfl))
 refine Late.tk 2 ?_ ?_ hH ?_ (hw:=by kernel_rfl);rotate_left;focus (intro wy hSw;(try dsimp only at hSw);obtain ⟨k0,k1,k2,k3⟩:=HC.out wy hSw;go_simp;try (with_reducible rfl))
 refine Late.tk 3 ?_ ?_ hH ?_ (hw:=by kernel_rfl);rotate_left;focus (intro wy hSw;(try dsimp only at hSw);obtain ⟨k0,k1,k2,k3⟩:=HC.out wy hSw;go_simp;try (with_reducible rfl))
 refine Late.tk 4 ?_ ?_ hH ?_ (hw:=by kernel_rfl);rotate_left;focus (intro wy hSw;(try dsimp only at hSw);obtain ⟨k0,k1,k2,k3⟩:=HC.out wy hSw;go_simp;try (with_reducible rfl))
 refine Late.tk 5 ?_ ?_ hH ?_ (hw:=by kernel_rfl);rotate_left;focus (intro wy hSw;(try dsimp only at hSw);obtain ⟨k0,k1,k2,k3⟩:=HC.out wy hSw;go_simp;try (with_reducible rfl))
 refine Late.tk 6 ?_ ?_ hH ?_ (hw:=by kernel_rfl);rotate_left;focus (intro wy hSw;(try dsimp only at hSw);obtain ⟨k0,k1,k2,k3⟩:=HC.out wy hSw;go_simp;try (with_reducible rfl))
 refine Late.tk 7 ?_ ?_ hH ?_ (hw:=by kernel_rfl);rotate_left;focus (intro wy hSw;(try dsimp only at hSw);obtain ⟨k0,k1,k2,k3⟩:=HC.out wy hSw;go_simp;try (with_reducible rfl))
 refine Late.tk 8 ?_ ?_ hH ?_ (hw:=by kernel_rfl);rotate_left;focus (intro wy hSw;(try dsimp only at hSw);obtain ⟨k0,k1,k2,k3⟩:=HC.out wy hSw;go_simp;try (with_reducible rfl))
 refine Late.tk 9 ?_ ?_ hH ?_ (hw:=by kernel_rfl);rotate_left;focus (intro wy hSw;(try dsimp only at hSw);obtain ⟨k0,k1,k2,k3⟩:=HC.out wy hSw;go_simp;try (with_reducible rfl))
 refine Late.tk 10 ?_ ?_ hH ?_ (hw:=by kernel_rfl);rotate_left;focus (intro wy hSw;(try dsimp only at hSw);obtain ⟨k0,k1,k2,k3⟩:=HC.out wy hSw;go_simp;try (with_reducible rfl))
 refine Late.tk 11 ?_ ?_ hH ?_ (hw:=by kernel_rfl);rotate_left;focus (intro wy hSw;(try dsimp only at hSw);obtain ⟨k0,k1,k2,k3⟩:=HC.out wy hSw;go_simp;try (with_reducible rfl))
 refine Late.tk 12 ?_ ?_ hH ?_ (hw:=by kernel_rfl);rotate_left;focus (intro wy hSw;(try dsimp only at hSw);obtain ⟨k0,k1,k2,k3⟩:=HC.out wy hSw;go_simp;try (with_reducible rfl))
 refine Late.tk 13 ?_ ?_ hH ?_ (hw:=by kernel_rfl);rotate_left;focus (intro wy hSw;(try dsimp only at hSw);obtain ⟨k0,k1,k2,k3⟩:=HC.out wy hSw;go_simp;try (with_reducible rfl))
 refine Late.tk 14 ?_ ?_ hH ?_ (hw:=by kernel_rfl);rotate_left;focus (intro wy hSw;(try dsimp only at hSw);obtain ⟨k0,k1,k2,k3⟩:=HC.out wy hSw;go_simp;try (with_reducible rfl))
 refine Late.tk 15 ?_ ?_ hH ?_ (hw:=by kernel_rfl);rotate_left;focus (intro wy hSw;(try dsimp only at hSw);obtain ⟨k0,k1,k2,k3⟩:=HC.out wy hSw;go_simp;try (with_reducible rfl))
 refine Late.tk 16 ?_ ?_ hH ?_ (hw:=by kernel_rfl);rotate_left;focus (intro wy hSw;(try dsimp only at hSw);obtain ⟨k0,k1,k2,k3⟩:=HC.out wy hSw;go_simp;try (with_reducible rfl))
 refine Late.tk 17 ?_ ?_ hH ?_ (hw:=by kernel_rfl);rotate_left;focus (intro wy hSw;(try dsimp only at hSw);obtain ⟨k0,k1,k2,k3⟩:=HC.out wy hSw;go_simp;try (with_reducible rfl))
 refine Late.tk 18 ?_ ?_ hH ?_ (hw:=by kernel_rfl);rotate_left;focus (intro wy hSw;(try dsimp only at hSw);obtain ⟨k0,k1,k2,k3⟩:=HC.out wy hSw;go_simp;try (with_reducible rfl))
 refine Late.tk 19 ?_ ?_ hH ?_ (hw:=by kernel_rfl);rotate_left;focus (intro wy hSw;(try dsimp only at hSw);obtain ⟨k0,k1,k2,k3⟩:=HC.out wy hSw;go_simp;try (with_reducible rfl))
 try simp only [Act.put,List.setIfInBounds_toArray,List.set_cons_zero,List.set_cons_succ]
 refine Late.Goes.done (by kernel_rfl) ?_ _
 have HV:=Lib.hid hH
 clear hH
 go_wp2_with fail
 go_ret
 exact ⟨rfl,rno HH.out (HB1.out.trans HV.out (fun _ _ h=>h)) HT.out⟩
theorem rap_meta (h:RM w rp kv tv B Ks) (o:ROk B Ks) (r:Rcd) (hr:Rec.Is r) (p:Spt) (hp:SpOk p) (hown:Own B r) (hk:r.kind=1) :
  Calls Tryz.prog 10 #[.pointer (some ⟨rp,0,none⟩),Rec.rv r,spV p] w fun e w'=>e = .returned (.bool true)∧RSays w rp (bapp B r) (kapp B r p Ks) w':=by
 have n1:(r.bucket != B.id)=false:=by simpa using hown.2.1
 have n2:((r.gen:Int) != (B.gen:Int))=false:=by have:=hown.2.2;simp;omega
 have HOW:=Lib.hid hown
 have HK:=Lib.hid hk
 clear hk
 have HCO:=Lib.hid (cost_le hown.1)
 clear hown
 have HX:=Lib.hid (Blk.two w (Rec.cells r) (spB p) 35 37)
 have HB0:=Lib.hid (((But.refl (fun _=>False) w).alloc (.cells (Rec.cells r) 35)).alloc (.cells (spB p) 37))
 have HH:=Lib.hid h
 have HO:=Lib.hid o
 have HIS:=Lib.hid hr
 have hrlt:=h.lt
 clear h o hr hp
 change Calls _ _ #[.pointer (some ⟨rp,0,none⟩),.agg #[.int .i64 r.kind,.int .i64 r.bucket,.int .u32 (r.gen:Int),.int .i64 r.keys,.int .i64 r.bytes,.int .i64 r.budget,.int .u64 (r.seq:Int),.int .u32 (r.serial:Int),.int .i64 r.rights,.int .u64 (r.secret:Int),.string r.key,.string r.val,.int .u64 (r.version:Int),.int .u64 (r.expiry:Int)],.agg #[.int .i64 p.1,.int .i64 p.2.1,.int .i64 p.2.2]] w _
 go_enter Tryz.func10,Tryz.ntmps10
 go_wp2_with (refine wpList_load_row rfl 35 _ rfl w.heap.size rfl 35 _ (0,0) _ HX.out.1 Tryz.underlying35 rfl Rec.rec_size ?_)
 change Calls _ _ _ ((w.alloc (.cells (Rec.cells r) 35)).alloc (.cells (spB p) 37)) _
 obtain ⟨b4,hb4⟩:∃ b,b=w.heap.size:=⟨_,rfl⟩
 rw [← hb4] at HX
 rw [← hb4]
 generalize (w.alloc (.cells (Rec.cells r) 35)).alloc (.cells (spB p) 37)=W at HX HB0 ⊢
 have HNR:=Lib.hid (show b4≠rp∧b4+1≠rp from by omega)
 clear hb4 hrlt
 refine (Rec.refMay_any r _).mono ?_
 rintro e w1 ⟨rfl,hbe⟩
 have hv1:But (fun _=>False) W w1:=But.of_new hbe
 have HX1:=Lib.hid (And.intro (HX.out.1.but hv1 (fun h=>h)) (HX.out.2.but hv1 (fun h=>h)))
 have HB1:=Lib.hid (HB0.out.trans hv1 (fun _ _ h=>h))
 have HM1:=Lib.hid (HH.out.new HB1.out)
 clear hbe hv1 HX HB0
 rw [decide_eq_true HOW.out.1]
 have HC:=Lib.hid (fun V (hV:But (fun _=>False) w1 V)=>(And.intro (show V.cell? ⟨rp,0,none⟩=some (.int .i64 B.id) from (HM1.out.new hV).blk.cell 0) (And.intro (show V.cell? ⟨rp,1,none⟩=some (.int .u32 (B.gen:Int)) from (HM1.out.new hV).blk.cell 1) (And.intro (show V.cell? ⟨b4,1,none⟩=some (.int .i64 r.bucket) from (HX1.out.1.but hV (fun h=>h)).cell 1) (show V.cell? ⟨b4,2,none⟩=some (.int .u32 (r.gen:Int)) from (HX1.out.1.but hV (fun h=>h)).cell 2)))))
 go_wp2_with fail
 refine Late.region_goes (fun V=>But (fun _=>False) w1 V) (fun _=>false) (by kernel_rfl) ?_ (fun hH=>?_)
 ·exact (But.refl _ w1).drew
 refine Late.tk 0 ?_ ?_ hH ?_ (hw:=by kernel_rfl);rotate_left;focus (intro wy hSw;(try dsimp only at hSw);obtain ⟨k0,k1,k2,k3⟩:=HC.out wy hSw;go_simp;try (with_reducible rfl))
 refine Late.tk 1 ?_ ?_ hH ?_ (hw:=by kernel_rfl);rotate_left;focus (intro wy hSw;(try dsimp only at hSw);obtain ⟨k0,k1,k2,k3⟩:=HC.out wy hSw;go_simp;try (with_reducible rfl))
 refine Late.tk 2 ?_ ?_ hH ?_ (hw:=by kernel_rfl);rotate_left;focus (intro wy hSw;(try dsimp only at hSw);obtain ⟨k0,k1,k2,k3⟩:=HC.out wy hSw;go_simp;try (with_reducible rfl))
 refine Late.tk 3 ?_ ?_ hH ?_ (hw:=by kernel_rfl);rotate_left;focus (intro wy hSw;(try dsimp only at hSw);obtain ⟨k0,k1,k2,k3⟩:=HC.out wy hSw;go_simp;try (with_reducible rfl))
 refine Late.tk 4 ?_ ?_ hH ?_ (hw:=by kernel_rfl);rotate_left;focus (intro wy hSw;(try dsimp only at hSw);obtain ⟨k0,k1,k2,k3⟩:=HC.out wy hSw;go_simp;try (with_reducible rfl))
 refine Late.tk 5 ?_ ?_ hH ?_ (hw:=by kernel_rfl);rotate_left;focus (intro wy hSw;(try dsimp only at hSw);obtain ⟨k0,k1,k2,k3⟩:=HC.out wy hSw;go_simp;try (with_reducible rfl))
 refine Late.tk 6 ?_ ?_ hH ?_ (hw:=by kernel_rfl);rotate_left;focus (intro wy hSw;(try dsimp only at hSw);obtain ⟨k0,k1,k2,k3⟩:=HC.out wy hSw;go_simp;try (with_reducible rfl))
 refine Late.tk 7 ?_ ?_ hH ?_ (hw:=by kernel_rfl);rotate_left;focus (intro wy hSw;(try dsimp only at hSw);obtain ⟨k0,k1,k2,k3⟩:=HC.out wy hSw;go_simp;try (with_reducible rfl))
 refine Late.tk 8 ?_ ?_ hH ?_ (hw:=by kernel_rfl);rotate_left;focus (intro wy hSw;(try dsimp only at hSw);obtain ⟨k0,k1,k2,k3⟩:=HC.out wy hSw;go_simp;try (with_reducible rfl))
 refine Late.tk 9 ?_ ?_ hH ?_ (hw:=by kernel_rfl);rotate_left;focus (intro wy hSw;(try dsimp only at hSw);obtain ⟨k0,k1,k2,k3⟩:=HC.out wy hSw;go_simp;try (with_reducible rfl))
 refine Late.tk 10 ?_ ?_ hH ?_ (hw:=by kernel_rfl);rotate_left;focus (intro wy hSw;(try dsimp only at hSw);obtain ⟨k0,k1,k2,k3⟩:=HC.out wy hSw;go_simp;try (with_reducible rfl))
 refine Late.tk 11 ?_ ?_ hH ?_ (hw:=by kernel_rfl);rotate_left;focus (intro wy hSw;(try dsimp only at hSw);obtain ⟨k0,k1,k2,k3⟩:=HC.out wy hSw;go_simp;try (with_reducible rfl))
 refine Late.tk 12 ?_ ?_ hH ?_ (hw:=by kernel_rfl);rotate_left;focus (intro wy hSw;(try dsimp only at hSw);obtain ⟨k0,k1,k2,k3⟩:=HC.out wy hSw;go_simp;try (with_reducible rfl))
 refine Late.tk 13 ?_ ?_ hH ?_ (hw:=by kernel_rfl);rotate_left;focus (intro wy hSw;(try dsimp only at hSw);obtain ⟨k0,k1,k2,k3⟩:=HC.out wy hSw;go_simp;try (with_reducible rfl))
 refine Late.tk 14 ?_ ?_ hH ?_ (hw:=by kernel_rfl);rotate_left;focus (intro wy hSw;(try dsimp only at hSw);obtain ⟨k0,k1,k2,k3⟩:=HC.out wy hSw;go_simp;try (with_reducible rfl))
 refine Late.tk 15 ?_ ?_ hH ?_ (hw:=by kernel_rfl);rotate_left;focus (intro wy hSw;(try dsimp only at hSw);obtain ⟨k0,k1,k2,k3⟩:=HC.out wy hSw;go_simp;try (with_reducible rfl))
 refine Late.tk 16 ?_ ?_ hH ?_ (hw:=by kernel_rfl);rotate_left;focus (intro wy hSw;(try dsimp only at hSw);obtain ⟨k0,k1,k2,k3⟩:=HC.out wy hSw;go_simp;try (with_reducible rfl))
 refine Late.tk 17 ?_ ?_ hH ?_ (hw:=by kernel_rfl);rotate_left;focus (intro wy hSw;(try dsimp only at hSw);obtain ⟨k0,k1,k2,k3⟩:=HC.out wy hSw;go_simp;try (with_reducible rfl))
 refine Late.tk 18 ?_ ?_ hH ?_ (hw:=by kernel_rfl);rotate_left;focus (intro wy hSw;(try dsimp only at hSw);obtain ⟨k0,k1,k2,k3⟩:=HC.out wy hSw;go_simp;try (with_reducible rfl))
 refine Late.tk 19 ?_ ?_ hH ?_ (hw:=by kernel_rfl);rotate_left;focus (intro wy hSw;(try dsimp only at hSw);obtain ⟨k0,k1,k2,k3⟩:=HC.out wy hSw;go_simp;try (with_reducible rfl))
 try simp only [Act.put,List.setIfInBounds_toArray,List.set_cons_zero,List.set_cons_succ]
 refine Late.Goes.done (by kernel_rfl) ?_ _
 have HV:=Lib.hid hH
 clear hH n1 n2
 have HX2:=Lib.hid (And.intro (HX1.out.1.but HV.out (fun h=>h)) (HX1.out.2.but HV.out (fun h=>h)))
 have HM2:=Lib.hid (HM1.out.new HV.out)
 have HB2:=Lib.hid (HB1.out.trans HV.out (fun _ _ h=>h))
 generalize w1.drew=w2 at HX2 HM2 HB2 ⊢
 have c0:w2.cell? ⟨b4,0,none⟩=some (.int .i64 1):=by
  have h:w2.cell? ⟨b4,0,none⟩=some (.int .i64 r.kind):=HX2.out.1.cell 0
  rw [HK.out] at h
  exact h
 clear HX1 HM1 HC HV
 have HRG:=Lib.hid (range_three HX2.out.1)
 have HTH:=Lib.hid (show w2.there rp 2 3 from fun j hj=>⟨by
  rw [HM2.out.blk.cell]
  rcases j with _|_|_|j
  ·rfl
  ·rfl
  ·rfl
  ·omega,HM2.out.blk.frozen _⟩)
 have HQ:=Lib.hid (HM2.out.set3 r.keys r.bytes r.budget)
 have HXQ:=Lib.hid (HX2.out.1.but HQ.out.2 HNR.out.1)
 go_wp2_with (first
  | (refine wpList_load_mid rfl 24 _ rfl b4 3 rfl [.int .i64 r.keys,.int .i64 r.bytes,.int .i64 r.budget] _ HRG.out Tryz.underlying24 rfl quota_size ?_)
  | (refine wpList_store_mid rfl 24 _ _ rfl rp 2 ([.int .i64 r.keys,.int .i64 r.bytes,.int .i64 r.budget]:List Value).toArray rfl rfl (by simpa using HTH.out) (by simpa using quota_size) (all_oneCell_toArray (by simp [Value.oneCell'])) ?_
     change wpList _ _ _ _ _ (w2.setCells rp 2 [.int .i64 r.keys,.int .i64 r.bytes,.int .i64 r.budget])
     clear c0
     generalize w2.setCells rp 2 [.int .i64 r.keys,.int .i64 r.bytes,.int .i64 r.budget]=w3 at HQ HXQ ⊢
     have c6:w3.cell? ⟨b4,6,none⟩=some (.int .u64 (r.seq:Int)):=HXQ.out.cell 6
     have k5:w3.cell? ⟨rp,5,none⟩=some (.int .u64 (B.seq:Int)):=HQ.out.1.blk.cell 5
     have f5:w3.frozen? ⟨rp,5,none⟩=false:=HQ.out.1.blk.frozen 5
     have HS4:=Lib.hid (HQ.out.1.set_ 5 (.int .u64 (r.seq:Int)) (B':={ B with q1:=r.keys,q2:=r.bytes,q3:=r.budget,seq:=r.seq }) rfl rfl rfl rfl)
     have HX4:=Lib.hid (HXQ.out.but HS4.out.2 HNR.out.1)
     have c7:(w3.setCell ⟨rp,5,none⟩ (.int .u64 (r.seq:Int))).cell? ⟨b4,7,none⟩=some (.int .u32 (r.serial:Int)):=HX4.out.cell 7
     have k6:(w3.setCell ⟨rp,5,none⟩ (.int .u64 (r.seq:Int))).cell? ⟨rp,6,none⟩=some (.int .u32 (B.serial:Int)):=HS4.out.1.blk.cell 6
     have f6:(w3.setCell ⟨rp,5,none⟩ (.int .u64 (r.seq:Int))).frozen? ⟨rp,6,none⟩=false:=HS4.out.1.blk.frozen 6
     have HS5:=Lib.hid (HS4.out.1.set_ 6 (.int .u32 (r.serial:Int)) (B':={ B with q1:=r.keys,q2:=r.bytes,q3:=r.budget,seq:=r.seq,serial:=r.serial }) rfl rfl rfl rfl)))
 go_ret
 have ht:told B r=true:=by unfold told;rw [decide_eq_true HOW.out,HK.out];rfl
 have hE:bapp B r={ B with q1:=r.keys,q2:=r.bytes,q3:=r.budget,seq:=r.seq,serial:=r.serial }∧kapp B r p Ks=Ks:=by
  unfold bapp kapp kmade made
  rw [ht,HK.out]
  exact ⟨rfl,rfl⟩
 rw [hE.1,hE.2]
 exact ⟨rfl,⟨_,_,HS5.out.1⟩,((HB2.out.mono (fun _ _ h=>h.elim)).trans' HQ.out.2).trans' (HS4.out.2.trans' HS5.out.2)⟩
theorem rap_k2 (h:RM w rp kv tv B Ks) (o:ROk B Ks) (r:Rcd) (hr:Rec.Is r) (p:Spt) (hp:SpOk p) (hown:Own B r) (hk:r.kind=2) :
  Calls Tryz.prog 10 #[.pointer (some ⟨rp,0,none⟩),Rec.rv r,spV p] w fun e w'=>e = .returned (.bool false)∧RSays w rp (bapp B r) (kapp B r p Ks) w':=by
 have HTL:=Lib.hid (show told B r=false from by unfold told;rw [hk];simp)
 have n1:(r.bucket != B.id)=false:=by simpa using hown.2.1
 have n2:((r.gen:Int) != (B.gen:Int))=false:=by have:=hown.2.2;simp;omega
 have HOW:=Lib.hid hown
 have HK:=Lib.hid hk
 clear hk
 have HCO:=Lib.hid (cost_le hown.1)
 clear hown
 have HX:=Lib.hid (Blk.two w (Rec.cells r) (spB p) 35 37)
 have HB0:=Lib.hid (((But.refl (fun _=>False) w).alloc (.cells (Rec.cells r) 35)).alloc (.cells (spB p) 37))
 have HH:=Lib.hid h
 have HO:=Lib.hid o
 have HIS:=Lib.hid hr
 have hrlt:=h.lt
 clear h o hr hp
 change Calls _ _ #[.pointer (some ⟨rp,0,none⟩),.agg #[.int .i64 r.kind,.int .i64 r.bucket,.int .u32 (r.gen:Int),.int .i64 r.keys,.int .i64 r.bytes,.int .i64 r.budget,.int .u64 (r.seq:Int),.int .u32 (r.serial:Int),.int .i64 r.rights,.int .u64 (r.secret:Int),.string r.key,.string r.val,.int .u64 (r.version:Int),.int .u64 (r.expiry:Int)],.agg #[.int .i64 p.1,.int .i64 p.2.1,.int .i64 p.2.2]] w _
 go_enter Tryz.func10,Tryz.ntmps10
 go_wp2_with (refine wpList_load_row rfl 35 _ rfl w.heap.size rfl 35 _ (0,0) _ HX.out.1 Tryz.underlying35 rfl Rec.rec_size ?_)
 change Calls _ _ _ ((w.alloc (.cells (Rec.cells r) 35)).alloc (.cells (spB p) 37)) _
 obtain ⟨b4,hb4⟩:∃ b,b=w.heap.size:=⟨_,rfl⟩
 rw [← hb4] at HX
 rw [← hb4]
 generalize (w.alloc (.cells (Rec.cells r) 35)).alloc (.cells (spB p) 37)=W at HX HB0 ⊢
 have HNR:=Lib.hid (show b4≠rp∧b4+1≠rp from by omega)
 clear hb4 hrlt
 refine (Rec.refMay_any r _).mono ?_
 rintro e w1 ⟨rfl,hbe⟩
 have hv1:But (fun _=>False) W w1:=But.of_new hbe
 have HX1:=Lib.hid (And.intro (HX.out.1.but hv1 (fun h=>h)) (HX.out.2.but hv1 (fun h=>h)))
 have HB1:=Lib.hid (HB0.out.trans hv1 (fun _ _ h=>h))
 have HM1:=Lib.hid (HH.out.new HB1.out)
 clear hbe hv1 HX HB0
 rw [decide_eq_true HOW.out.1]
 have HC:=Lib.hid (fun V (hV:But (fun _=>False) w1 V)=>(And.intro (show V.cell? ⟨rp,0,none⟩=some (.int .i64 B.id) from (HM1.out.new hV).blk.cell 0) (And.intro (show V.cell? ⟨rp,1,none⟩=some (.int .u32 (B.gen:Int)) from (HM1.out.new hV).blk.cell 1) (And.intro (show V.cell? ⟨b4,1,none⟩=some (.int .i64 r.bucket) from (HX1.out.1.but hV (fun h=>h)).cell 1) (show V.cell? ⟨b4,2,none⟩=some (.int .u32 (r.gen:Int)) from (HX1.out.1.but hV (fun h=>h)).cell 2)))))
 go_wp2_with fail
 refine Late.region_goes (fun V=>But (fun _=>False) w1 V) (fun _=>false) (by kernel_rfl) ?_ (fun hH=>?_)
 ·exact (But.refl _ w1).drew
 refine Late.tk 0 ?_ ?_ hH ?_ (hw:=by kernel_rfl);rotate_left;focus (intro wy hSw;(try dsimp only at hSw);obtain ⟨k0,k1,k2,k3⟩:=HC.out wy hSw;go_simp;try (with_reducible rfl))
 refine Late.tk 1 ?_ ?_ hH ?_ (hw:=by kernel_rfl);rotate_left;focus (intro wy hSw;(try dsimp only at hSw);obtain ⟨k0,k1,k2,k3⟩:=HC.out wy hSw;go_simp;try (with_reducible rfl))
 refine Late.tk 2 ?_ ?_ hH ?_ (hw:=by kernel_rfl);rotate_left;focus (intro wy hSw;(try dsimp only at hSw);obtain ⟨k0,k1,k2,k3⟩:=HC.out wy hSw;go_simp;try (with_reducible rfl))
 refine Late.tk 3 ?_ ?_ hH ?_ (hw:=by kernel_rfl);rotate_left;focus (intro wy hSw;(try dsimp only at hSw);obtain ⟨k0,k1,k2,k3⟩:=HC.out wy hSw;go_simp;try (with_reducible rfl))
 refine Late.tk 4 ?_ ?_ hH ?_ (hw:=by kernel_rfl);rotate_left;focus (intro wy hSw;(try dsimp only at hSw);obtain ⟨k0,k1,k2,k3⟩:=HC.out wy hSw;go_simp;try (with_reducible rfl))
 refine Late.tk 5 ?_ ?_ hH ?_ (hw:=by kernel_rfl);rotate_left;focus (intro wy hSw;(try dsimp only at hSw);obtain ⟨k0,k1,k2,k3⟩:=HC.out wy hSw;go_simp;try (with_reducible rfl))
 refine Late.tk 6 ?_ ?_ hH ?_ (hw:=by kernel_rfl);rotate_left;focus (intro wy hSw;(try dsimp only at hSw);obtain ⟨k0,k1,k2,k3⟩:=HC.out wy hSw;go_simp;try (with_reducible rfl))
 refine Late.tk 7 ?_ ?_ hH ?_ (hw:=by kernel_rfl);rotate_left;focus (intro wy hSw;(try dsimp only at hSw);obtain ⟨k0,k1,k2,k3⟩:=HC.out wy hSw;go_simp;try (with_reducible rfl))
 refine Late.tk 8 ?_ ?_ hH ?_ (hw:=by kernel_rfl);rotate_left;focus (intro wy hSw;(try dsimp only at hSw);obtain ⟨k0,k1,k2,k3⟩:=HC.out wy hSw;go_simp;try (with_reducible rfl))
 refine Late.tk 9 ?_ ?_ hH ?_ (hw:=by kernel_rfl);rotate_left;focus (intro wy hSw;(try dsimp only at hSw);obtain ⟨k0,k1,k2,k3⟩:=HC.out wy hSw;go_simp;try (with_reducible rfl))
 refine Late.tk 10 ?_ ?_ hH ?_ (hw:=by kernel_rfl);rotate_left;focus (intro wy hSw;(try dsimp only at hSw);obtain ⟨k0,k1,k2,k3⟩:=HC.out wy hSw;go_simp;try (with_reducible rfl))
 refine Late.tk 11 ?_ ?_ hH ?_ (hw:=by kernel_rfl);rotate_left;focus (intro wy hSw;(try dsimp only at hSw);obtain ⟨k0,k1,k2,k3⟩:=HC.out wy hSw;go_simp;try (with_reducible rfl))
 refine Late.tk 12 ?_ ?_ hH ?_ (hw:=by kernel_rfl);rotate_left;focus (intro wy hSw;(try dsimp only at hSw);obtain ⟨k0,k1,k2,k3⟩:=HC.out wy hSw;go_simp;try (with_reducible rfl))
 refine Late.tk 13 ?_ ?_ hH ?_ (hw:=by kernel_rfl);rotate_left;focus (intro wy hSw;(try dsimp only at hSw);obtain ⟨k0,k1,k2,k3⟩:=HC.out wy hSw;go_simp;try (with_reducible rfl))
 refine Late.tk 14 ?_ ?_ hH ?_ (hw:=by kernel_rfl);rotate_left;focus (intro wy hSw;(try dsimp only at hSw);obtain ⟨k0,k1,k2,k3⟩:=HC.out wy hSw;go_simp;try (with_reducible rfl))
 refine Late.tk 15 ?_ ?_ hH ?_ (hw:=by kernel_rfl);rotate_left;focus (intro wy hSw;(try dsimp only at hSw);obtain ⟨k0,k1,k2,k3⟩:=HC.out wy hSw;go_simp;try (with_reducible rfl))
 refine Late.tk 16 ?_ ?_ hH ?_ (hw:=by kernel_rfl);rotate_left;focus (intro wy hSw;(try dsimp only at hSw);obtain ⟨k0,k1,k2,k3⟩:=HC.out wy hSw;go_simp;try (with_reducible rfl))
 refine Late.tk 17 ?_ ?_ hH ?_ (hw:=by kernel_rfl);rotate_left;focus (intro wy hSw;(try dsimp only at hSw);obtain ⟨k0,k1,k2,k3⟩:=HC.out wy hSw;go_simp;try (with_reducible rfl))
 refine Late.tk 18 ?_ ?_ hH ?_ (hw:=by kernel_rfl);rotate_left;focus (intro wy hSw;(try dsimp only at hSw);obtain ⟨k0,k1,k2,k3⟩:=HC.out wy hSw;go_simp;try (with_reducible rfl))
 refine Late.tk 19 ?_ ?_ hH ?_ (hw:=by kernel_rfl);rotate_left;focus (intro wy hSw;(try dsimp only at hSw);obtain ⟨k0,k1,k2,k3⟩:=HC.out wy hSw;go_simp;try (with_reducible rfl))
 try simp only [Act.put,List.setIfInBounds_toArray,List.set_cons_zero,List.set_cons_succ]
 refine Late.Goes.done (by kernel_rfl) ?_ _
 have HV:=Lib.hid hH
 clear hH n1 n2
 have HX2:=Lib.hid (And.intro (HX1.out.1.but HV.out (fun h=>h)) (HX1.out.2.but HV.out (fun h=>h)))
 have HM2:=Lib.hid (HM1.out.new HV.out)
 have HB2:=Lib.hid (HB1.out.trans HV.out (fun _ _ h=>h))
 generalize w1.drew=w2 at HX2 HM2 HB2 ⊢
 have c0:w2.cell? ⟨b4,0,none⟩=some (.int .i64 2):=by
  have h:w2.cell? ⟨b4,0,none⟩=some (.int .i64 r.kind):=HX2.out.1.cell 0
  rw [HK.out] at h
  exact h
 clear HX1 HM1 HC HV
 go_wp2_with fail
 go_ret
 exact ⟨rfl,rno HH.out HB2.out HTL.out⟩
theorem rap_put (h:RM w rp kv tv B Ks) (o:ROk B Ks) (r:Rcd) (hr:Rec.Is r) (p:Spt) (hp:SpOk p) (hown:Own B r) (hk:r.kind=3) :
  Calls Tryz.prog 10 #[.pointer (some ⟨rp,0,none⟩),Rec.rv r,spV p] w fun e w'=>e = .returned (.bool true)∧RSays w rp (bapp B r) (kapp B r p Ks) w':=by
 have n1:(r.bucket != B.id)=false:=by simpa using hown.2.1
 have n2:((r.gen:Int) != (B.gen:Int))=false:=by have:=hown.2.2;simp;omega
 have HOW:=Lib.hid hown
 have HK:=Lib.hid hk
 clear hk
 have HCO:=Lib.hid (cost_le hown.1)
 clear hown
 have HX:=Lib.hid (Blk.two w (Rec.cells r) (spB p) 35 37)
 have HB0:=Lib.hid (((But.refl (fun _=>False) w).alloc (.cells (Rec.cells r) 35)).alloc (.cells (spB p) 37))
 have HH:=Lib.hid h
 have HO:=Lib.hid o
 have HIS:=Lib.hid hr
 have hrlt:=h.lt
 clear h o hr hp
 change Calls _ _ #[.pointer (some ⟨rp,0,none⟩),.agg #[.int .i64 r.kind,.int .i64 r.bucket,.int .u32 (r.gen:Int),.int .i64 r.keys,.int .i64 r.bytes,.int .i64 r.budget,.int .u64 (r.seq:Int),.int .u32 (r.serial:Int),.int .i64 r.rights,.int .u64 (r.secret:Int),.string r.key,.string r.val,.int .u64 (r.version:Int),.int .u64 (r.expiry:Int)],.agg #[.int .i64 p.1,.int .i64 p.2.1,.int .i64 p.2.2]] w _
 go_enter Tryz.func10,Tryz.ntmps10
 go_wp2_with (refine wpList_load_row rfl 35 _ rfl w.heap.size rfl 35 _ (0,0) _ HX.out.1 Tryz.underlying35 rfl Rec.rec_size ?_)
 change Calls _ _ _ ((w.alloc (.cells (Rec.cells r) 35)).alloc (.cells (spB p) 37)) _
 obtain ⟨b4,hb4⟩:∃ b,b=w.heap.size:=⟨_,rfl⟩
 rw [← hb4] at HX
 rw [← hb4]
 generalize (w.alloc (.cells (Rec.cells r) 35)).alloc (.cells (spB p) 37)=W at HX HB0 ⊢
 have HNR:=Lib.hid (show b4≠rp∧b4+1≠rp from by omega)
 clear hb4 hrlt
 refine (Rec.refMay_any r _).mono ?_
 rintro e w1 ⟨rfl,hbe⟩
 have hv1:But (fun _=>False) W w1:=But.of_new hbe
 have HX1:=Lib.hid (And.intro (HX.out.1.but hv1 (fun h=>h)) (HX.out.2.but hv1 (fun h=>h)))
 have HB1:=Lib.hid (HB0.out.trans hv1 (fun _ _ h=>h))
 have HM1:=Lib.hid (HH.out.new HB1.out)
 clear hbe hv1 HX HB0
 rw [decide_eq_true HOW.out.1]
 have HC:=Lib.hid (fun V (hV:But (fun _=>False) w1 V)=>(And.intro (show V.cell? ⟨rp,0,none⟩=some (.int .i64 B.id) from (HM1.out.new hV).blk.cell 0) (And.intro (show V.cell? ⟨rp,1,none⟩=some (.int .u32 (B.gen:Int)) from (HM1.out.new hV).blk.cell 1) (And.intro (show V.cell? ⟨b4,1,none⟩=some (.int .i64 r.bucket) from (HX1.out.1.but hV (fun h=>h)).cell 1) (show V.cell? ⟨b4,2,none⟩=some (.int .u32 (r.gen:Int)) from (HX1.out.1.but hV (fun h=>h)).cell 2)))))
 go_wp2_with fail
 refine Late.region_goes (fun V=>But (fun _=>False) w1 V) (fun _=>false) (by kernel_rfl) ?_ (fun hH=>?_)
 ·exact (But.refl _ w1).drew
 refine Late.tk 0 ?_ ?_ hH ?_ (hw:=by kernel_rfl);rotate_left;focus (intro wy hSw;(try dsimp only at hSw);obtain ⟨k0,k1,k2,k3⟩:=HC.out wy hSw;go_simp;try (with_reducible rfl))
 refine Late.tk 1 ?_ ?_ hH ?_ (hw:=by kernel_rfl);rotate_left;focus (intro wy hSw;(try dsimp only at hSw);obtain ⟨k0,k1,k2,k3⟩:=HC.out wy hSw;go_simp;try (with_reducible rfl))
 refine Late.tk 2 ?_ ?_ hH ?_ (hw:=by kernel_rfl);rotate_left;focus (intro wy hSw;(try dsimp only at hSw);obtain ⟨k0,k1,k2,k3⟩:=HC.out wy hSw;go_simp;try (with_reducible rfl))
 refine Late.tk 3 ?_ ?_ hH ?_ (hw:=by kernel_rfl);rotate_left;focus (intro wy hSw;(try dsimp only at hSw);obtain ⟨k0,k1,k2,k3⟩:=HC.out wy hSw;go_simp;try (with_reducible rfl))
 refine Late.tk 4 ?_ ?_ hH ?_ (hw:=by kernel_rfl);rotate_left;focus (intro wy hSw;(try dsimp only at hSw);obtain ⟨k0,k1,k2,k3⟩:=HC.out wy hSw;go_simp;try (with_reducible rfl))
 refine Late.tk 5 ?_ ?_ hH ?_ (hw:=by kernel_rfl);rotate_left;focus (intro wy hSw;(try dsimp only at hSw);obtain ⟨k0,k1,k2,k3⟩:=HC.out wy hSw;go_simp;try (with_reducible rfl))
 refine Late.tk 6 ?_ ?_ hH ?_ (hw:=by kernel_rfl);rotate_left;focus (intro wy hSw;(try dsimp only at hSw);obtain ⟨k0,k1,k2,k3⟩:=HC.out wy hSw;go_simp;try (with_reducible rfl))
 refine Late.tk 7 ?_ ?_ hH ?_ (hw:=by kernel_rfl);rotate_left;focus (intro wy hSw;(try dsimp only at hSw);obtain ⟨k0,k1,k2,k3⟩:=HC.out wy hSw;go_simp;try (with_reducible rfl))
 refine Late.tk 8 ?_ ?_ hH ?_ (hw:=by kernel_rfl);rotate_left;focus (intro wy hSw;(try dsimp only at hSw);obtain ⟨k0,k1,k2,k3⟩:=HC.out wy hSw;go_simp;try (with_reducible rfl))
 refine Late.tk 9 ?_ ?_ hH ?_ (hw:=by kernel_rfl);rotate_left;focus (intro wy hSw;(try dsimp only at hSw);obtain ⟨k0,k1,k2,k3⟩:=HC.out wy hSw;go_simp;try (with_reducible rfl))
 refine Late.tk 10 ?_ ?_ hH ?_ (hw:=by kernel_rfl);rotate_left;focus (intro wy hSw;(try dsimp only at hSw);obtain ⟨k0,k1,k2,k3⟩:=HC.out wy hSw;go_simp;try (with_reducible rfl))
 refine Late.tk 11 ?_ ?_ hH ?_ (hw:=by kernel_rfl);rotate_left;focus (intro wy hSw;(try dsimp only at hSw);obtain ⟨k0,k1,k2,k3⟩:=HC.out wy hSw;go_simp;try (with_reducible rfl))
 refine Late.tk 12 ?_ ?_ hH ?_ (hw:=by kernel_rfl);rotate_left;focus (intro wy hSw;(try dsimp only at hSw);obtain ⟨k0,k1,k2,k3⟩:=HC.out wy hSw;go_simp;try (with_reducible rfl))
 refine Late.tk 13 ?_ ?_ hH ?_ (hw:=by kernel_rfl);rotate_left;focus (intro wy hSw;(try dsimp only at hSw);obtain ⟨k0,k1,k2,k3⟩:=HC.out wy hSw;go_simp;try (with_reducible rfl))
 refine Late.tk 14 ?_ ?_ hH ?_ (hw:=by kernel_rfl);rotate_left;focus (intro wy hSw;(try dsimp only at hSw);obtain ⟨k0,k1,k2,k3⟩:=HC.out wy hSw;go_simp;try (with_reducible rfl))
 refine Late.tk 15 ?_ ?_ hH ?_ (hw:=by kernel_rfl);rotate_left;focus (intro wy hSw;(try dsimp only at hSw);obtain ⟨k0,k1,k2,k3⟩:=HC.out wy hSw;go_simp;try (with_reducible rfl))
 refine Late.tk 16 ?_ ?_ hH ?_ (hw:=by kernel_rfl);rotate_left;focus (intro wy hSw;(try dsimp only at hSw);obtain ⟨k0,k1,k2,k3⟩:=HC.out wy hSw;go_simp;try (with_reducible rfl))
 refine Late.tk 17 ?_ ?_ hH ?_ (hw:=by kernel_rfl);rotate_left;focus (intro wy hSw;(try dsimp only at hSw);obtain ⟨k0,k1,k2,k3⟩:=HC.out wy hSw;go_simp;try (with_reducible rfl))
 refine Late.tk 18 ?_ ?_ hH ?_ (hw:=by kernel_rfl);rotate_left;focus (intro wy hSw;(try dsimp only at hSw);obtain ⟨k0,k1,k2,k3⟩:=HC.out wy hSw;go_simp;try (with_reducible rfl))
 refine Late.tk 19 ?_ ?_ hH ?_ (hw:=by kernel_rfl);rotate_left;focus (intro wy hSw;(try dsimp only at hSw);obtain ⟨k0,k1,k2,k3⟩:=HC.out wy hSw;go_simp;try (with_reducible rfl))
 try simp only [Act.put,List.setIfInBounds_toArray,List.set_cons_zero,List.set_cons_succ]
 refine Late.Goes.done (by kernel_rfl) ?_ _
 have HV:=Lib.hid hH
 clear hH n1 n2
 have HX2:=Lib.hid (And.intro (HX1.out.1.but HV.out (fun h=>h)) (HX1.out.2.but HV.out (fun h=>h)))
 have HM2:=Lib.hid (HM1.out.new HV.out)
 have HB2:=Lib.hid (HB1.out.trans HV.out (fun _ _ h=>h))
 generalize w1.drew=w2 at HX2 HM2 HB2 ⊢
 have c0:w2.cell? ⟨b4,0,none⟩=some (.int .i64 3):=by
  have h:w2.cell? ⟨b4,0,none⟩=some (.int .i64 r.kind):=HX2.out.1.cell 0
  rw [HK.out] at h
  exact h
 clear HX1 HM1 HC HV
 have c10:w2.cell? ⟨b4,10,none⟩=some (.string r.key):=HX2.out.1.cell 10
 have c11:w2.cell? ⟨b4,11,none⟩=some (.string r.val):=HX2.out.1.cell 11
 have c12:w2.cell? ⟨b4,12,none⟩=some (.int .u64 (r.version:Int)):=HX2.out.1.cell 12
 have c13:w2.cell? ⟨b4,13,none⟩=some (.int .u64 (r.expiry:Int)):=HX2.out.1.cell 13
 have d0:w2.cell? ⟨b4+1,0,none⟩=some (.int .i64 p.1):=HX2.out.2.cell 0
 have d1:w2.cell? ⟨b4+1,1,none⟩=some (.int .i64 p.2.1):=HX2.out.2.cell 1
 have d2:w2.cell? ⟨b4+1,2,none⟩=some (.int .i64 p.2.2):=HX2.out.2.cell 2
 go_wp2_with fail
 refine (rput_any HM2.out (by have:=HO.out.len;omega) (keyOf r p)).mono ?_
 rintro e w3 ⟨rfl,⟨kv3,hm3⟩,hb3⟩
 have HX3:=Lib.hid (HX2.out.1.but hb3 HNR.out.1)
 have HM3:=Lib.hid hm3
 have HB3:=Lib.hid ((HB2.out.mono (fun _ _ h=>h.elim)).trans' hb3)
 clear hm3 hb3 c0 c10 c11 c12 c13 d0 d1 d2
 have c12:w3.cell? ⟨b4,12,none⟩=some (.int .u64 (r.version:Int)):=HX3.out.cell 12
 go_wp2_with fail
 refine (used_any HM3.out r.version HIS.out.version HO.out.seq).mono ?_
 rintro e wz ⟨rfl,hmz,hbz⟩
 have HXz:=Lib.hid (HX3.out.but hbz HNR.out.1)
 have HMz:=Lib.hid hmz
 have HBz:=Lib.hid (HB3.out.trans' hbz)
 clear hmz hbz c12
 obtain ⟨c,hc⟩:∃ c,c=Rec.costOf r:=⟨_,rfl⟩
 have HCC:=Lib.hid hc
 have HCB:=Lib.hid (show 14≤c∧c≤1098 from by rw [hc];exact HCO.out)
 clear hc
 obtain ⟨z,hz⟩:∃ z,z=B.charged:=⟨_,rfl⟩
 have HZZ:=Lib.hid hz
 have HZB:=Lib.hid (show 0≤z∧z≤1000000000∧14≤c∧c≤1098 from ⟨by rw [hz];exact HO.out.charged.1,by rw [hz];exact HO.out.charged.2,HCB.out.1,HCB.out.2⟩)
 clear hz
 obtain ⟨Bch,hBch⟩:∃ b:Bk,b={ B with seq:=b64 B.seq r.version,charged:=z+c }:=⟨_,rfl⟩
 have HBC:=Lib.hid (show (rmcells { B with seq:=b64 B.seq r.version } kv3 tv).setIfInBounds 9 (.int .i64 (z+c))=rmcells Bch kv3 tv∧Bch.toks={ B with seq:=b64 B.seq r.version }.toks∧Bch.id={ B with seq:=b64 B.seq r.version }.id∧Bch.gen={ B with seq:=b64 B.seq r.version }.gen from by rw [hBch];exact ⟨rfl,rfl,rfl,rfl⟩)
 have HEND:=Lib.hid (show bapp B r=Bch∧kapp B r p Ks=kput (keyOf r p) Ks from by
  have ht:told B r=true:=by unfold told;rw [decide_eq_true HOW.out,HK.out];rfl
  unfold bapp kapp kmade made
  rw [ht,HK.out,hBch,HZZ.out,HCC.out]
  exact ⟨rfl,rfl⟩)
 clear hBch
 have HCZ:=Lib.hid (fun V (hV:But (fun _=>False) wz V)=>And.intro (show V.cell? ⟨rp,9,none⟩=some (.int .i64 z) from by
  have:=(HMz.out.new hV).blk.cell 9
  rw [HZZ.out]
  exact this) (show V.frozen? ⟨rp,9,none⟩=false from (HMz.out.new hV).blk.frozen 9))
 have HRZ:=Lib.hid (fun V (hV:But (fun _=>False) wz V)=>show V.rangeAt b4 0 (rcs r) from blk_range0 (A:=[]) (B:=rcs r) (HXz.out.but hV (fun h=>h)))
 have ww:IntKind.i64.wrap (z+c)=z+c:=IntWalk.i64_in _ (by have:=HZB.out;omega)
 go_wp2_with fail
 refine Late.region_goes (fun V=>But (fun _=>False) wz V) (fun j=>j == 10) (by kernel_rfl) ?_ (fun hH=>?_)
 ·exact (But.refl _ wz).drew
 refine Late.tk 0 ?_ ?_ hH ?_;rotate_left 2
 refine Late.tk 1 ?_ ?_ hH ?_;rotate_left 2
 refine Late.tk 2 ?_ ?_ hH ?_;rotate_left 2
 refine Late.tk 3 ?_ ?_ hH ?_;rotate_left 2
 refine Late.tk 4 ?_ ?_ hH ?_;rotate_left 2
 rotate_left
 any_goals (intro wy hSw;(try dsimp only at hSw);have k0:=(HCZ.out wy hSw).1;go_simp;try (with_reducible rfl))
 try simp only [Act.put,List.setIfInBounds_toArray,List.set_cons_zero,List.set_cons_succ]
 refine Late.Goes.takeT (i:=5) (v:=_) (by simp only [List.getElem?_toArray,List.getElem?_cons_succ,List.getElem?_cons_zero];rfl) (by kernel_rfl) (by kernel_rfl) (by kernel_rfl) (by kernel_rfl) (by kernel_rfl) (by exact fun _ _ _ h=>h) (yields_rec (by rfl) _ rfl b4 0 rfl r (fun V hV=>HRZ.out V hV)) hH ?_
 try simp only [Act.put,List.setIfInBounds_toArray,List.set_cons_zero,List.set_cons_succ]
 have HVz:=Lib.hid hH
 refine Late.Goes.one (i:=6) (by kernel_rfl) (by simp only [List.getElem?_toArray,List.getElem?_cons_succ,List.getElem?_cons_zero];rfl) (fun K hK=>?_)
 clear hH
 go_simp
 go_at_call 40
 refine (Rec.refCost_any r HOW.out.1 HIS.out _).mono ?_
 rintro e wy ⟨rfl,hbe⟩
 rw [← HCC.out]
 have HVy:=Lib.hid (HVz.out.trans (But.of_new hbe:But (fun _=>False) _ _) (fun _ _ h=>h))
 clear hbe
 refine hK.out _ _ ?_ (fun hH=>?_)
 ·exact fun _=>HVy.out
 clear hK K
 have hH:=hH rfl
 try simp only [Act.put,List.setIfInBounds_toArray,List.set_cons_zero,List.set_cons_succ]
 refine Late.tk 7 ?_ ?_ hH ?_;rotate_left 2
 refine Late.tk 8 ?_ ?_ hH ?_;rotate_left 2
 refine Late.tk 9 ?_ ?_ hH ?_;rotate_left 2
 rotate_left
 any_goals (intro wy hSw;(try dsimp only at hSw);have k0:=(HCZ.out wy hSw).1;go_simp;try (with_reducible rfl))
 try simp only [Act.put,List.setIfInBounds_toArray,List.set_cons_zero,List.set_cons_succ]
 have k9:=(HCZ.out _ HVy.out).1
 have f9:=(HCZ.out _ HVy.out).2
 refine Late.Goes.one (i:=10) (by kernel_rfl) (by simp only [List.getElem?_toArray,List.getElem?_cons_succ,List.getElem?_cons_zero];rfl) (fun K hK=>?_)
 clear hH
 go_simp
 clear k9 f9
 have HF:=Lib.hid ((HMz.out.new HVy.out).set_ 9 (.int .i64 (z+c)) (B':=Bch) HBC.out.1 HBC.out.2.1 HBC.out.2.2.1 HBC.out.2.2.2)
 generalize wy.setCell ⟨rp,9,none⟩ (.int .i64 (z+c))=wx at HF ⊢
 refine hK.out _ _ ?_ (fun _=>?_)
 ·exact fun h=>by cases h
 clear hK K
 try simp only [Act.put,List.setIfInBounds_toArray,List.set_cons_zero,List.set_cons_succ]
 refine Late.Goes.done (by kernel_rfl) ?_ _
 have HEB:=Lib.hid ((HBz.out.trans' (HVy.out.mono (fun _ _ h=>h.elim))).trans' HF.out.2)
 go_wp2_with fail
 go_ret
 rw [HEND.out.1,HEND.out.2]
 exact ⟨rfl,⟨_,_,HF.out.1⟩,HEB.out⟩
theorem rap_del (h:RM w rp kv tv B Ks) (o:ROk B Ks) (r:Rcd) (hr:Rec.Is r) (p:Spt) (hp:SpOk p) (hown:Own B r) (hk:r.kind=4) :
  Calls Tryz.prog 10 #[.pointer (some ⟨rp,0,none⟩),Rec.rv r,spV p] w fun e w'=>e = .returned (.bool true)∧RSays w rp (bapp B r) (kapp B r p Ks) w':=by
 have n1:(r.bucket != B.id)=false:=by simpa using hown.2.1
 have n2:((r.gen:Int) != (B.gen:Int))=false:=by have:=hown.2.2;simp;omega
 have HOW:=Lib.hid hown
 have HK:=Lib.hid hk
 clear hk
 have HCO:=Lib.hid (cost_le hown.1)
 clear hown
 have HX:=Lib.hid (Blk.two w (Rec.cells r) (spB p) 35 37)
 have HB0:=Lib.hid (((But.refl (fun _=>False) w).alloc (.cells (Rec.cells r) 35)).alloc (.cells (spB p) 37))
 have HH:=Lib.hid h
 have HO:=Lib.hid o
 have HIS:=Lib.hid hr
 have hrlt:=h.lt
 clear h o hr hp
 change Calls _ _ #[.pointer (some ⟨rp,0,none⟩),.agg #[.int .i64 r.kind,.int .i64 r.bucket,.int .u32 (r.gen:Int),.int .i64 r.keys,.int .i64 r.bytes,.int .i64 r.budget,.int .u64 (r.seq:Int),.int .u32 (r.serial:Int),.int .i64 r.rights,.int .u64 (r.secret:Int),.string r.key,.string r.val,.int .u64 (r.version:Int),.int .u64 (r.expiry:Int)],.agg #[.int .i64 p.1,.int .i64 p.2.1,.int .i64 p.2.2]] w _
 go_enter Tryz.func10,Tryz.ntmps10
 go_wp2_with (refine wpList_load_row rfl 35 _ rfl w.heap.size rfl 35 _ (0,0) _ HX.out.1 Tryz.underlying35 rfl Rec.rec_size ?_)
 change Calls _ _ _ ((w.alloc (.cells (Rec.cells r) 35)).alloc (.cells (spB p) 37)) _
 obtain ⟨b4,hb4⟩:∃ b,b=w.heap.size:=⟨_,rfl⟩
 rw [← hb4] at HX
 rw [← hb4]
 generalize (w.alloc (.cells (Rec.cells r) 35)).alloc (.cells (spB p) 37)=W at HX HB0 ⊢
 have HNR:=Lib.hid (show b4≠rp∧b4+1≠rp from by omega)
 clear hb4 hrlt
 refine (Rec.refMay_any r _).mono ?_
 rintro e w1 ⟨rfl,hbe⟩
 have hv1:But (fun _=>False) W w1:=But.of_new hbe
 have HX1:=Lib.hid (And.intro (HX.out.1.but hv1 (fun h=>h)) (HX.out.2.but hv1 (fun h=>h)))
 have HB1:=Lib.hid (HB0.out.trans hv1 (fun _ _ h=>h))
 have HM1:=Lib.hid (HH.out.new HB1.out)
 clear hbe hv1 HX HB0
 rw [decide_eq_true HOW.out.1]
 have HC:=Lib.hid (fun V (hV:But (fun _=>False) w1 V)=>(And.intro (show V.cell? ⟨rp,0,none⟩=some (.int .i64 B.id) from (HM1.out.new hV).blk.cell 0) (And.intro (show V.cell? ⟨rp,1,none⟩=some (.int .u32 (B.gen:Int)) from (HM1.out.new hV).blk.cell 1) (And.intro (show V.cell? ⟨b4,1,none⟩=some (.int .i64 r.bucket) from (HX1.out.1.but hV (fun h=>h)).cell 1) (show V.cell? ⟨b4,2,none⟩=some (.int .u32 (r.gen:Int)) from (HX1.out.1.but hV (fun h=>h)).cell 2)))))
 go_wp2_with fail
 refine Late.region_goes (fun V=>But (fun _=>False) w1 V) (fun _=>false) (by kernel_rfl) ?_ (fun hH=>?_)
 ·exact (But.refl _ w1).drew
 refine Late.tk 0 ?_ ?_ hH ?_ (hw:=by kernel_rfl);rotate_left;focus (intro wy hSw;(try dsimp only at hSw);obtain ⟨k0,k1,k2,k3⟩:=HC.out wy hSw;go_simp;try (with_reducible rfl))
 refine Late.tk 1 ?_ ?_ hH ?_ (hw:=by kernel_rfl);rotate_left;focus (intro wy hSw;(try dsimp only at hSw);obtain ⟨k0,k1,k2,k3⟩:=HC.out wy hSw;go_simp;try (with_reducible rfl))
 refine Late.tk 2 ?_ ?_ hH ?_ (hw:=by kernel_rfl);rotate_left;focus (intro wy hSw;(try dsimp only at hSw);obtain ⟨k0,k1,k2,k3⟩:=HC.out wy hSw;go_simp;try (with_reducible rfl))
 refine Late.tk 3 ?_ ?_ hH ?_ (hw:=by kernel_rfl);rotate_left;focus (intro wy hSw;(try dsimp only at hSw);obtain ⟨k0,k1,k2,k3⟩:=HC.out wy hSw;go_simp;try (with_reducible rfl))
 refine Late.tk 4 ?_ ?_ hH ?_ (hw:=by kernel_rfl);rotate_left;focus (intro wy hSw;(try dsimp only at hSw);obtain ⟨k0,k1,k2,k3⟩:=HC.out wy hSw;go_simp;try (with_reducible rfl))
 refine Late.tk 5 ?_ ?_ hH ?_ (hw:=by kernel_rfl);rotate_left;focus (intro wy hSw;(try dsimp only at hSw);obtain ⟨k0,k1,k2,k3⟩:=HC.out wy hSw;go_simp;try (with_reducible rfl))
 refine Late.tk 6 ?_ ?_ hH ?_ (hw:=by kernel_rfl);rotate_left;focus (intro wy hSw;(try dsimp only at hSw);obtain ⟨k0,k1,k2,k3⟩:=HC.out wy hSw;go_simp;try (with_reducible rfl))
 refine Late.tk 7 ?_ ?_ hH ?_ (hw:=by kernel_rfl);rotate_left;focus (intro wy hSw;(try dsimp only at hSw);obtain ⟨k0,k1,k2,k3⟩:=HC.out wy hSw;go_simp;try (with_reducible rfl))
 refine Late.tk 8 ?_ ?_ hH ?_ (hw:=by kernel_rfl);rotate_left;focus (intro wy hSw;(try dsimp only at hSw);obtain ⟨k0,k1,k2,k3⟩:=HC.out wy hSw;go_simp;try (with_reducible rfl))
 refine Late.tk 9 ?_ ?_ hH ?_ (hw:=by kernel_rfl);rotate_left;focus (intro wy hSw;(try dsimp only at hSw);obtain ⟨k0,k1,k2,k3⟩:=HC.out wy hSw;go_simp;try (with_reducible rfl))
 refine Late.tk 10 ?_ ?_ hH ?_ (hw:=by kernel_rfl);rotate_left;focus (intro wy hSw;(try dsimp only at hSw);obtain ⟨k0,k1,k2,k3⟩:=HC.out wy hSw;go_simp;try (with_reducible rfl))
 refine Late.tk 11 ?_ ?_ hH ?_ (hw:=by kernel_rfl);rotate_left;focus (intro wy hSw;(try dsimp only at hSw);obtain ⟨k0,k1,k2,k3⟩:=HC.out wy hSw;go_simp;try (with_reducible rfl))
 refine Late.tk 12 ?_ ?_ hH ?_ (hw:=by kernel_rfl);rotate_left;focus (intro wy hSw;(try dsimp only at hSw);obtain ⟨k0,k1,k2,k3⟩:=HC.out wy hSw;go_simp;try (with_reducible rfl))
 refine Late.tk 13 ?_ ?_ hH ?_ (hw:=by kernel_rfl);rotate_left;focus (intro wy hSw;(try dsimp only at hSw);obtain ⟨k0,k1,k2,k3⟩:=HC.out wy hSw;go_simp;try (with_reducible rfl))
 refine Late.tk 14 ?_ ?_ hH ?_ (hw:=by kernel_rfl);rotate_left;focus (intro wy hSw;(try dsimp only at hSw);obtain ⟨k0,k1,k2,k3⟩:=HC.out wy hSw;go_simp;try (with_reducible rfl))
 refine Late.tk 15 ?_ ?_ hH ?_ (hw:=by kernel_rfl);rotate_left;focus (intro wy hSw;(try dsimp only at hSw);obtain ⟨k0,k1,k2,k3⟩:=HC.out wy hSw;go_simp;try (with_reducible rfl))
 refine Late.tk 16 ?_ ?_ hH ?_ (hw:=by kernel_rfl);rotate_left;focus (intro wy hSw;(try dsimp only at hSw);obtain ⟨k0,k1,k2,k3⟩:=HC.out wy hSw;go_simp;try (with_reducible rfl))
 refine Late.tk 17 ?_ ?_ hH ?_ (hw:=by kernel_rfl);rotate_left;focus (intro wy hSw;(try dsimp only at hSw);obtain ⟨k0,k1,k2,k3⟩:=HC.out wy hSw;go_simp;try (with_reducible rfl))
 refine Late.tk 18 ?_ ?_ hH ?_ (hw:=by kernel_rfl);rotate_left;focus (intro wy hSw;(try dsimp only at hSw);obtain ⟨k0,k1,k2,k3⟩:=HC.out wy hSw;go_simp;try (with_reducible rfl))
 refine Late.tk 19 ?_ ?_ hH ?_ (hw:=by kernel_rfl);rotate_left;focus (intro wy hSw;(try dsimp only at hSw);obtain ⟨k0,k1,k2,k3⟩:=HC.out wy hSw;go_simp;try (with_reducible rfl))
 try simp only [Act.put,List.setIfInBounds_toArray,List.set_cons_zero,List.set_cons_succ]
 refine Late.Goes.done (by kernel_rfl) ?_ _
 have HV:=Lib.hid hH
 clear hH n1 n2
 have HX2:=Lib.hid (And.intro (HX1.out.1.but HV.out (fun h=>h)) (HX1.out.2.but HV.out (fun h=>h)))
 have HM2:=Lib.hid (HM1.out.new HV.out)
 have HB2:=Lib.hid (HB1.out.trans HV.out (fun _ _ h=>h))
 generalize w1.drew=w2 at HX2 HM2 HB2 ⊢
 have c0:w2.cell? ⟨b4,0,none⟩=some (.int .i64 4):=by
  have h:w2.cell? ⟨b4,0,none⟩=some (.int .i64 r.kind):=HX2.out.1.cell 0
  rw [HK.out] at h
  exact h
 clear HX1 HM1 HC HV
 have c10:w2.cell? ⟨b4,10,none⟩=some (.string r.key):=HX2.out.1.cell 10
 go_wp2_with fail
 refine (rdrop_any HM2.out (by have:=HO.out.len;omega) r.key).mono ?_
 rintro e w3 ⟨rfl,⟨kv3,hm3⟩,hb3⟩
 have HX3:=Lib.hid (HX2.out.1.but hb3 HNR.out.1)
 have HM3:=Lib.hid hm3
 have HB3:=Lib.hid ((HB2.out.mono (fun _ _ h=>h.elim)).trans' hb3)
 clear hm3 hb3 c0 c10
 have c12:w3.cell? ⟨b4,12,none⟩=some (.int .u64 (r.version:Int)):=HX3.out.cell 12
 go_wp2_with fail
 refine (used_any HM3.out r.version HIS.out.version HO.out.seq).mono ?_
 rintro e wz ⟨rfl,hmz,hbz⟩
 have HXz:=Lib.hid (HX3.out.but hbz HNR.out.1)
 have HMz:=Lib.hid hmz
 have HBz:=Lib.hid (HB3.out.trans' hbz)
 clear hmz hbz c12
 obtain ⟨c,hc⟩:∃ c,c=Rec.costOf r:=⟨_,rfl⟩
 have HCC:=Lib.hid hc
 have HCB:=Lib.hid (show 14≤c∧c≤1098 from by rw [hc];exact HCO.out)
 clear hc
 obtain ⟨z,hz⟩:∃ z,z=B.charged:=⟨_,rfl⟩
 have HZZ:=Lib.hid hz
 have HZB:=Lib.hid (show 0≤z∧z≤1000000000∧14≤c∧c≤1098 from ⟨by rw [hz];exact HO.out.charged.1,by rw [hz];exact HO.out.charged.2,HCB.out.1,HCB.out.2⟩)
 clear hz
 obtain ⟨Bch,hBch⟩:∃ b:Bk,b={ B with seq:=b64 B.seq r.version,charged:=z+c }:=⟨_,rfl⟩
 have HBC:=Lib.hid (show (rmcells { B with seq:=b64 B.seq r.version } kv3 tv).setIfInBounds 9 (.int .i64 (z+c))=rmcells Bch kv3 tv∧Bch.toks={ B with seq:=b64 B.seq r.version }.toks∧Bch.id={ B with seq:=b64 B.seq r.version }.id∧Bch.gen={ B with seq:=b64 B.seq r.version }.gen from by rw [hBch];exact ⟨rfl,rfl,rfl,rfl⟩)
 have HEND:=Lib.hid (show bapp B r=Bch∧kapp B r p Ks=kdrop r.key Ks from by
  have ht:told B r=true:=by unfold told;rw [decide_eq_true HOW.out,HK.out];rfl
  unfold bapp kapp kmade made
  rw [ht,HK.out,hBch,HZZ.out,HCC.out]
  exact ⟨rfl,rfl⟩)
 clear hBch
 have HCZ:=Lib.hid (fun V (hV:But (fun _=>False) wz V)=>And.intro (show V.cell? ⟨rp,9,none⟩=some (.int .i64 z) from by
  have:=(HMz.out.new hV).blk.cell 9
  rw [HZZ.out]
  exact this) (show V.frozen? ⟨rp,9,none⟩=false from (HMz.out.new hV).blk.frozen 9))
 have HRZ:=Lib.hid (fun V (hV:But (fun _=>False) wz V)=>show V.rangeAt b4 0 (rcs r) from blk_range0 (A:=[]) (B:=rcs r) (HXz.out.but hV (fun h=>h)))
 have ww:IntKind.i64.wrap (z+c)=z+c:=IntWalk.i64_in _ (by have:=HZB.out;omega)
 go_wp2_with fail
 refine Late.region_goes (fun V=>But (fun _=>False) wz V) (fun j=>j == 10) (by kernel_rfl) ?_ (fun hH=>?_)
 ·exact (But.refl _ wz).drew
 refine Late.tk 0 ?_ ?_ hH ?_;rotate_left 2
 refine Late.tk 1 ?_ ?_ hH ?_;rotate_left 2
 refine Late.tk 2 ?_ ?_ hH ?_;rotate_left 2
 refine Late.tk 3 ?_ ?_ hH ?_;rotate_left 2
 refine Late.tk 4 ?_ ?_ hH ?_;rotate_left 2
 rotate_left
 any_goals (intro wy hSw;(try dsimp only at hSw);have k0:=(HCZ.out wy hSw).1;go_simp;try (with_reducible rfl))
 try simp only [Act.put,List.setIfInBounds_toArray,List.set_cons_zero,List.set_cons_succ]
 refine Late.Goes.takeT (i:=5) (v:=_) (by simp only [List.getElem?_toArray,List.getElem?_cons_succ,List.getElem?_cons_zero];rfl) (by kernel_rfl) (by kernel_rfl) (by kernel_rfl) (by kernel_rfl) (by kernel_rfl) (by exact fun _ _ _ h=>h) (yields_rec (by rfl) _ rfl b4 0 rfl r (fun V hV=>HRZ.out V hV)) hH ?_
 try simp only [Act.put,List.setIfInBounds_toArray,List.set_cons_zero,List.set_cons_succ]
 have HVz:=Lib.hid hH
 refine Late.Goes.one (i:=6) (by kernel_rfl) (by simp only [List.getElem?_toArray,List.getElem?_cons_succ,List.getElem?_cons_zero];rfl) (fun K hK=>?_)
 clear hH
 go_simp
 go_at_call 40
 refine (Rec.refCost_any r HOW.out.1 HIS.out _).mono ?_
 rintro e wy ⟨rfl,hbe⟩
 rw [← HCC.out]
 have HVy:=Lib.hid (HVz.out.trans (But.of_new hbe:But (fun _=>False) _ _) (fun _ _ h=>h))
 clear hbe
 refine hK.out _ _ ?_ (fun hH=>?_)
 ·exact fun _=>HVy.out
 clear hK K
 have hH:=hH rfl
 try simp only [Act.put,List.setIfInBounds_toArray,List.set_cons_zero,List.set_cons_succ]
 refine Late.tk 7 ?_ ?_ hH ?_;rotate_left 2
 refine Late.tk 8 ?_ ?_ hH ?_;rotate_left 2
 refine Late.tk 9 ?_ ?_ hH ?_;rotate_left 2
 rotate_left
 any_goals (intro wy hSw;(try dsimp only at hSw);have k0:=(HCZ.out wy hSw).1;go_simp;try (with_reducible rfl))
 try simp only [Act.put,List.setIfInBounds_toArray,List.set_cons_zero,List.set_cons_succ]
 have k9:=(HCZ.out _ HVy.out).1
 have f9:=(HCZ.out _ HVy.out).2
 refine Late.Goes.one (i:=10) (by kernel_rfl) (by simp only [List.getElem?_toArray,List.getElem?_cons_succ,List.getElem?_cons_zero];rfl) (fun K hK=>?_)
 clear hH
 go_simp
 clear k9 f9
 have HF:=Lib.hid ((HMz.out.new HVy.out).set_ 9 (.int .i64 (z+c)) (B':=Bch) HBC.out.1 HBC.out.2.1 HBC.out.2.2.1 HBC.out.2.2.2)
 generalize wy.setCell ⟨rp,9,none⟩ (.int .i64 (z+c))=wx at HF ⊢
 refine hK.out _ _ ?_ (fun _=>?_)
 ·exact fun h=>by cases h
 clear hK K
 try simp only [Act.put,List.setIfInBounds_toArray,List.set_cons_zero,List.set_cons_succ]
 refine Late.Goes.done (by kernel_rfl) ?_ _
 have HEB:=Lib.hid ((HBz.out.trans' (HVy.out.mono (fun _ _ h=>h.elim))).trans' HF.out.2)
 go_wp2_with fail
 go_ret
 rw [HEND.out.1,HEND.out.2]
 exact ⟨rfl,⟨_,_,HF.out.1⟩,HEB.out⟩
theorem rap_full (h:RM w rp kv tv B Ks) (o:ROk B Ks) (r:Rcd) (hr:Rec.Is r) (p:Spt) (hp:SpOk p) (hown:Own B r) (hk:r.kind=5) (hpe:Rgt.putErr r.serial r.rights B.toks≠0) :
  Calls Tryz.prog 10 #[.pointer (some ⟨rp,0,none⟩),Rec.rv r,spV p] w fun e w'=>e = .returned (.bool false)∧RSays w rp (bapp B r) (kapp B r p Ks) w':=by
 have HTL:=Lib.hid (show told B r=false from by unfold told;rw [decide_eq_true hown,hk,decide_eq_false hpe];rfl)
 have HFU:=Lib.hid (show (Rgt.look r.serial B.toks).isSome=false∧100≤B.toks.length from by
  have hf:=hown.1.2.2.2.2.2.2
  unfold Rec.fits at hf
  rw [if_neg (by rw [hk];decide),if_neg (by rw [hk];decide),if_neg (by rw [hk];decide),if_pos hk] at hf
  unfold Rgt.putErr at hpe
  rw [if_neg (by omega)] at hpe
  by_cases hc:Rgt.look r.serial B.toks=none∧100≤B.toks.length
  ·exact ⟨by rw [hc.1];rfl,hc.2⟩
  ·rw [if_neg hc] at hpe
   exact absurd rfl hpe)
 clear hpe
 have n1:(r.bucket != B.id)=false:=by simpa using hown.2.1
 have n2:((r.gen:Int) != (B.gen:Int))=false:=by have:=hown.2.2;simp;omega
 have HOW:=Lib.hid hown
 have HK:=Lib.hid hk
 clear hk
 have HCO:=Lib.hid (cost_le hown.1)
 clear hown
 have HX:=Lib.hid (Blk.two w (Rec.cells r) (spB p) 35 37)
 have HB0:=Lib.hid (((But.refl (fun _=>False) w).alloc (.cells (Rec.cells r) 35)).alloc (.cells (spB p) 37))
 have HH:=Lib.hid h
 have HO:=Lib.hid o
 have HIS:=Lib.hid hr
 have hrlt:=h.lt
 clear h o hr hp
 change Calls _ _ #[.pointer (some ⟨rp,0,none⟩),.agg #[.int .i64 r.kind,.int .i64 r.bucket,.int .u32 (r.gen:Int),.int .i64 r.keys,.int .i64 r.bytes,.int .i64 r.budget,.int .u64 (r.seq:Int),.int .u32 (r.serial:Int),.int .i64 r.rights,.int .u64 (r.secret:Int),.string r.key,.string r.val,.int .u64 (r.version:Int),.int .u64 (r.expiry:Int)],.agg #[.int .i64 p.1,.int .i64 p.2.1,.int .i64 p.2.2]] w _
 go_enter Tryz.func10,Tryz.ntmps10
 go_wp2_with (refine wpList_load_row rfl 35 _ rfl w.heap.size rfl 35 _ (0,0) _ HX.out.1 Tryz.underlying35 rfl Rec.rec_size ?_)
 change Calls _ _ _ ((w.alloc (.cells (Rec.cells r) 35)).alloc (.cells (spB p) 37)) _
 obtain ⟨b4,hb4⟩:∃ b,b=w.heap.size:=⟨_,rfl⟩
 rw [← hb4] at HX
 rw [← hb4]
 generalize (w.alloc (.cells (Rec.cells r) 35)).alloc (.cells (spB p) 37)=W at HX HB0 ⊢
 have HNR:=Lib.hid (show b4≠rp∧b4+1≠rp from by omega)
 clear hb4 hrlt
 refine (Rec.refMay_any r _).mono ?_
 rintro e w1 ⟨rfl,hbe⟩
 have hv1:But (fun _=>False) W w1:=But.of_new hbe
 have HX1:=Lib.hid (And.intro (HX.out.1.but hv1 (fun h=>h)) (HX.out.2.but hv1 (fun h=>h)))
 have HB1:=Lib.hid (HB0.out.trans hv1 (fun _ _ h=>h))
 have HM1:=Lib.hid (HH.out.new HB1.out)
 clear hbe hv1 HX HB0
 rw [decide_eq_true HOW.out.1]
 have HC:=Lib.hid (fun V (hV:But (fun _=>False) w1 V)=>(And.intro (show V.cell? ⟨rp,0,none⟩=some (.int .i64 B.id) from (HM1.out.new hV).blk.cell 0) (And.intro (show V.cell? ⟨rp,1,none⟩=some (.int .u32 (B.gen:Int)) from (HM1.out.new hV).blk.cell 1) (And.intro (show V.cell? ⟨b4,1,none⟩=some (.int .i64 r.bucket) from (HX1.out.1.but hV (fun h=>h)).cell 1) (show V.cell? ⟨b4,2,none⟩=some (.int .u32 (r.gen:Int)) from (HX1.out.1.but hV (fun h=>h)).cell 2)))))
 go_wp2_with fail
 refine Late.region_goes (fun V=>But (fun _=>False) w1 V) (fun _=>false) (by kernel_rfl) ?_ (fun hH=>?_)
 ·exact (But.refl _ w1).drew
 refine Late.tk 0 ?_ ?_ hH ?_ (hw:=by kernel_rfl);rotate_left;focus (intro wy hSw;(try dsimp only at hSw);obtain ⟨k0,k1,k2,k3⟩:=HC.out wy hSw;go_simp;try (with_reducible rfl))
 refine Late.tk 1 ?_ ?_ hH ?_ (hw:=by kernel_rfl);rotate_left;focus (intro wy hSw;(try dsimp only at hSw);obtain ⟨k0,k1,k2,k3⟩:=HC.out wy hSw;go_simp;try (with_reducible rfl))
 refine Late.tk 2 ?_ ?_ hH ?_ (hw:=by kernel_rfl);rotate_left;focus (intro wy hSw;(try dsimp only at hSw);obtain ⟨k0,k1,k2,k3⟩:=HC.out wy hSw;go_simp;try (with_reducible rfl))
 refine Late.tk 3 ?_ ?_ hH ?_ (hw:=by kernel_rfl);rotate_left;focus (intro wy hSw;(try dsimp only at hSw);obtain ⟨k0,k1,k2,k3⟩:=HC.out wy hSw;go_simp;try (with_reducible rfl))
 refine Late.tk 4 ?_ ?_ hH ?_ (hw:=by kernel_rfl);rotate_left;focus (intro wy hSw;(try dsimp only at hSw);obtain ⟨k0,k1,k2,k3⟩:=HC.out wy hSw;go_simp;try (with_reducible rfl))
 refine Late.tk 5 ?_ ?_ hH ?_ (hw:=by kernel_rfl);rotate_left;focus (intro wy hSw;(try dsimp only at hSw);obtain ⟨k0,k1,k2,k3⟩:=HC.out wy hSw;go_simp;try (with_reducible rfl))
 refine Late.tk 6 ?_ ?_ hH ?_ (hw:=by kernel_rfl);rotate_left;focus (intro wy hSw;(try dsimp only at hSw);obtain ⟨k0,k1,k2,k3⟩:=HC.out wy hSw;go_simp;try (with_reducible rfl))
 refine Late.tk 7 ?_ ?_ hH ?_ (hw:=by kernel_rfl);rotate_left;focus (intro wy hSw;(try dsimp only at hSw);obtain ⟨k0,k1,k2,k3⟩:=HC.out wy hSw;go_simp;try (with_reducible rfl))
 refine Late.tk 8 ?_ ?_ hH ?_ (hw:=by kernel_rfl);rotate_left;focus (intro wy hSw;(try dsimp only at hSw);obtain ⟨k0,k1,k2,k3⟩:=HC.out wy hSw;go_simp;try (with_reducible rfl))
 refine Late.tk 9 ?_ ?_ hH ?_ (hw:=by kernel_rfl);rotate_left;focus (intro wy hSw;(try dsimp only at hSw);obtain ⟨k0,k1,k2,k3⟩:=HC.out wy hSw;go_simp;try (with_reducible rfl))
 refine Late.tk 10 ?_ ?_ hH ?_ (hw:=by kernel_rfl);rotate_left;focus (intro wy hSw;(try dsimp only at hSw);obtain ⟨k0,k1,k2,k3⟩:=HC.out wy hSw;go_simp;try (with_reducible rfl))
 refine Late.tk 11 ?_ ?_ hH ?_ (hw:=by kernel_rfl);rotate_left;focus (intro wy hSw;(try dsimp only at hSw);obtain ⟨k0,k1,k2,k3⟩:=HC.out wy hSw;go_simp;try (with_reducible rfl))
 refine Late.tk 12 ?_ ?_ hH ?_ (hw:=by kernel_rfl);rotate_left;focus (intro wy hSw;(try dsimp only at hSw);obtain ⟨k0,k1,k2,k3⟩:=HC.out wy hSw;go_simp;try (with_reducible rfl))
 refine Late.tk 13 ?_ ?_ hH ?_ (hw:=by kernel_rfl);rotate_left;focus (intro wy hSw;(try dsimp only at hSw);obtain ⟨k0,k1,k2,k3⟩:=HC.out wy hSw;go_simp;try (with_reducible rfl))
 refine Late.tk 14 ?_ ?_ hH ?_ (hw:=by kernel_rfl);rotate_left;focus (intro wy hSw;(try dsimp only at hSw);obtain ⟨k0,k1,k2,k3⟩:=HC.out wy hSw;go_simp;try (with_reducible rfl))
 refine Late.tk 15 ?_ ?_ hH ?_ (hw:=by kernel_rfl);rotate_left;focus (intro wy hSw;(try dsimp only at hSw);obtain ⟨k0,k1,k2,k3⟩:=HC.out wy hSw;go_simp;try (with_reducible rfl))
 refine Late.tk 16 ?_ ?_ hH ?_ (hw:=by kernel_rfl);rotate_left;focus (intro wy hSw;(try dsimp only at hSw);obtain ⟨k0,k1,k2,k3⟩:=HC.out wy hSw;go_simp;try (with_reducible rfl))
 refine Late.tk 17 ?_ ?_ hH ?_ (hw:=by kernel_rfl);rotate_left;focus (intro wy hSw;(try dsimp only at hSw);obtain ⟨k0,k1,k2,k3⟩:=HC.out wy hSw;go_simp;try (with_reducible rfl))
 refine Late.tk 18 ?_ ?_ hH ?_ (hw:=by kernel_rfl);rotate_left;focus (intro wy hSw;(try dsimp only at hSw);obtain ⟨k0,k1,k2,k3⟩:=HC.out wy hSw;go_simp;try (with_reducible rfl))
 refine Late.tk 19 ?_ ?_ hH ?_ (hw:=by kernel_rfl);rotate_left;focus (intro wy hSw;(try dsimp only at hSw);obtain ⟨k0,k1,k2,k3⟩:=HC.out wy hSw;go_simp;try (with_reducible rfl))
 try simp only [Act.put,List.setIfInBounds_toArray,List.set_cons_zero,List.set_cons_succ]
 refine Late.Goes.done (by kernel_rfl) ?_ _
 have HV:=Lib.hid hH
 clear hH n1 n2
 have HX2:=Lib.hid (And.intro (HX1.out.1.but HV.out (fun h=>h)) (HX1.out.2.but HV.out (fun h=>h)))
 have HM2:=Lib.hid (HM1.out.new HV.out)
 have HB2:=Lib.hid (HB1.out.trans HV.out (fun _ _ h=>h))
 generalize w1.drew=w2 at HX2 HM2 HB2 ⊢
 have c0:w2.cell? ⟨b4,0,none⟩=some (.int .i64 5):=by
  have h:w2.cell? ⟨b4,0,none⟩=some (.int .i64 r.kind):=HX2.out.1.cell 0
  rw [HK.out] at h
  exact h
 clear HX1 HM1 HC HV
 have hgd:=HO.out.toks
 have c7:w2.cell? ⟨b4,7,none⟩=some (.int .u32 (r.serial:Int)):=HX2.out.1.cell 7
 have HTK:=Lib.hid (token_any HM2.out hgd.ris (by have:=hgd.len;omega) r.serial)
 have hq:=Rgt.plc_le r.serial B.toks
 have hlen100:=hgd.len
 have HPL:=Lib.hid (show Rgt.plc r.serial B.toks=Rgt.plc r.serial B.toks∧(Rgt.look r.serial B.toks).isSome=(Rgt.look r.serial B.toks).isSome from ⟨rfl,rfl⟩)
 obtain ⟨q,hqe⟩:∃ q,q=Rgt.plc r.serial B.toks:=⟨_,rfl⟩
 rw [← hqe] at HTK hq HPL
 clear hqe
 obtain ⟨b,hbe⟩:∃ b,b=(Rgt.look r.serial B.toks).isSome:=⟨_,rfl⟩
 rw [← hbe] at HTK HPL
 have HBE:=Lib.hid hbe
 clear hbe hgd
 go_wp2_with fail
 refine HTK.out.mono ?_
 rintro e w3 ⟨rfl,hb3⟩
 have HX3:=Lib.hid (HX2.out.1.but hb3 (fun h=>h))
 have HM3:=Lib.hid (HM2.out.new hb3)
 have HB3:=Lib.hid (HB2.out.trans hb3 (fun _ _ h=>h))
 clear hb3 c0 c7
 obtain ⟨N,hN⟩:∃ N,N=B.toks.length:=⟨_,rfl⟩
 have HNN:=Lib.hid hN
 have hrow:=HM3.out.toks
 rw [← hN] at hrow hq hlen100
 obtain ⟨at0,ct0,htv,_⟩:=own_form hrow
 have HTV:=Lib.hid htv
 clear hN
 have hbf:b=false:=HBE.out.trans HFU.out.1
 subst hbf
 subst htv
 have k8:w3.cell? ⟨rp,8,none⟩=some (.slice at0 N ct0):=HM3.out.blk.cell 8
 have h100:(100:Int)≤(N:Int):=by have:=HFU.out.2;rw [HNN.out];omega
 go_wp2_with fail
 go_ret
 exact ⟨rfl,rno HH.out HB3.out HTL.out⟩
theorem rap_tokn (h:RM w rp kv tv B Ks) (o:ROk B Ks) (r:Rcd) (hr:Rec.Is r) (p:Spt) (hp:SpOk p) (hown:Own B r) (hk:r.kind=5) (hpe:Rgt.putErr r.serial r.rights B.toks=0) (hlk:(Rgt.look r.serial B.toks).isSome=false) :
  Calls Tryz.prog 10 #[.pointer (some ⟨rp,0,none⟩),Rec.rv r,spV p] w fun e w'=>e = .returned (.bool true)∧RSays w rp (bapp B r) (kapp B r p Ks) w':=by
 have HPE:=Lib.hid hpe
 have HLK:=Lib.hid hlk
 have HFU:=Lib.hid (show (Rgt.look r.serial B.toks).isSome=true∨B.toks.length < 100 from by
  have hf:=hown.1.2.2.2.2.2.2
  unfold Rec.fits at hf
  rw [if_neg (by rw [hk];decide),if_neg (by rw [hk];decide),if_neg (by rw [hk];decide),if_pos hk] at hf
  unfold Rgt.putErr at hpe
  rw [if_neg (by omega)] at hpe
  by_cases hc:Rgt.look r.serial B.toks=none∧100≤B.toks.length
  ·rw [if_pos hc] at hpe
   exact absurd hpe (by decide)
  ·cases hl:Rgt.look r.serial B.toks with
   | some x=>exact .inl rfl
   | none=>right;exact Nat.lt_of_not_le (fun h=>hc ⟨hl,h⟩))
 have HFORM:=Lib.hid (tok_form hown hk)
 clear hpe hlk
 have n1:(r.bucket != B.id)=false:=by simpa using hown.2.1
 have n2:((r.gen:Int) != (B.gen:Int))=false:=by have:=hown.2.2;simp;omega
 have HOW:=Lib.hid hown
 have HK:=Lib.hid hk
 clear hk
 have HCO:=Lib.hid (cost_le hown.1)
 clear hown
 have HX:=Lib.hid (Blk.two w (Rec.cells r) (spB p) 35 37)
 have HB0:=Lib.hid (((But.refl (fun _=>False) w).alloc (.cells (Rec.cells r) 35)).alloc (.cells (spB p) 37))
 have HH:=Lib.hid h
 have HO:=Lib.hid o
 have HIS:=Lib.hid hr
 have hrlt:=h.lt
 clear h o hr hp
 change Calls _ _ #[.pointer (some ⟨rp,0,none⟩),.agg #[.int .i64 r.kind,.int .i64 r.bucket,.int .u32 (r.gen:Int),.int .i64 r.keys,.int .i64 r.bytes,.int .i64 r.budget,.int .u64 (r.seq:Int),.int .u32 (r.serial:Int),.int .i64 r.rights,.int .u64 (r.secret:Int),.string r.key,.string r.val,.int .u64 (r.version:Int),.int .u64 (r.expiry:Int)],.agg #[.int .i64 p.1,.int .i64 p.2.1,.int .i64 p.2.2]] w _
 go_enter Tryz.func10,Tryz.ntmps10
 go_wp2_with (refine wpList_load_row rfl 35 _ rfl w.heap.size rfl 35 _ (0,0) _ HX.out.1 Tryz.underlying35 rfl Rec.rec_size ?_)
 change Calls _ _ _ ((w.alloc (.cells (Rec.cells r) 35)).alloc (.cells (spB p) 37)) _
 obtain ⟨b4,hb4⟩:∃ b,b=w.heap.size:=⟨_,rfl⟩
 rw [← hb4] at HX
 rw [← hb4]
 generalize (w.alloc (.cells (Rec.cells r) 35)).alloc (.cells (spB p) 37)=W at HX HB0 ⊢
 have HNR:=Lib.hid (show b4≠rp∧b4+1≠rp from by omega)
 clear hb4 hrlt
 refine (Rec.refMay_any r _).mono ?_
 rintro e w1 ⟨rfl,hbe⟩
 have hv1:But (fun _=>False) W w1:=But.of_new hbe
 have HX1:=Lib.hid (And.intro (HX.out.1.but hv1 (fun h=>h)) (HX.out.2.but hv1 (fun h=>h)))
 have HB1:=Lib.hid (HB0.out.trans hv1 (fun _ _ h=>h))
 have HM1:=Lib.hid (HH.out.new HB1.out)
 clear hbe hv1 HX HB0
 rw [decide_eq_true HOW.out.1]
 have HC:=Lib.hid (fun V (hV:But (fun _=>False) w1 V)=>(And.intro (show V.cell? ⟨rp,0,none⟩=some (.int .i64 B.id) from (HM1.out.new hV).blk.cell 0) (And.intro (show V.cell? ⟨rp,1,none⟩=some (.int .u32 (B.gen:Int)) from (HM1.out.new hV).blk.cell 1) (And.intro (show V.cell? ⟨b4,1,none⟩=some (.int .i64 r.bucket) from (HX1.out.1.but hV (fun h=>h)).cell 1) (show V.cell? ⟨b4,2,none⟩=some (.int .u32 (r.gen:Int)) from (HX1.out.1.but hV (fun h=>h)).cell 2)))))
 go_wp2_with fail
 refine Late.region_goes (fun V=>But (fun _=>False) w1 V) (fun _=>false) (by kernel_rfl) ?_ (fun hH=>?_)
 ·exact (But.refl _ w1).drew
 refine Late.tk 0 ?_ ?_ hH ?_ (hw:=by kernel_rfl);rotate_left;focus (intro wy hSw;(try dsimp only at hSw);obtain ⟨k0,k1,k2,k3⟩:=HC.out wy hSw;go_simp;try (with_reducible rfl))
 refine Late.tk 1 ?_ ?_ hH ?_ (hw:=by kernel_rfl);rotate_left;focus (intro wy hSw;(try dsimp only at hSw);obtain ⟨k0,k1,k2,k3⟩:=HC.out wy hSw;go_simp;try (with_reducible rfl))
 refine Late.tk 2 ?_ ?_ hH ?_ (hw:=by kernel_rfl);rotate_left;focus (intro wy hSw;(try dsimp only at hSw);obtain ⟨k0,k1,k2,k3⟩:=HC.out wy hSw;go_simp;try (with_reducible rfl))
 refine Late.tk 3 ?_ ?_ hH ?_ (hw:=by kernel_rfl);rotate_left;focus (intro wy hSw;(try dsimp only at hSw);obtain ⟨k0,k1,k2,k3⟩:=HC.out wy hSw;go_simp;try (with_reducible rfl))
 refine Late.tk 4 ?_ ?_ hH ?_ (hw:=by kernel_rfl);rotate_left;focus (intro wy hSw;(try dsimp only at hSw);obtain ⟨k0,k1,k2,k3⟩:=HC.out wy hSw;go_simp;try (with_reducible rfl))
 refine Late.tk 5 ?_ ?_ hH ?_ (hw:=by kernel_rfl);rotate_left;focus (intro wy hSw;(try dsimp only at hSw);obtain ⟨k0,k1,k2,k3⟩:=HC.out wy hSw;go_simp;try (with_reducible rfl))
 refine Late.tk 6 ?_ ?_ hH ?_ (hw:=by kernel_rfl);rotate_left;focus (intro wy hSw;(try dsimp only at hSw);obtain ⟨k0,k1,k2,k3⟩:=HC.out wy hSw;go_simp;try (with_reducible rfl))
 refine Late.tk 7 ?_ ?_ hH ?_ (hw:=by kernel_rfl);rotate_left;focus (intro wy hSw;(try dsimp only at hSw);obtain ⟨k0,k1,k2,k3⟩:=HC.out wy hSw;go_simp;try (with_reducible rfl))
 refine Late.tk 8 ?_ ?_ hH ?_ (hw:=by kernel_rfl);rotate_left;focus (intro wy hSw;(try dsimp only at hSw);obtain ⟨k0,k1,k2,k3⟩:=HC.out wy hSw;go_simp;try (with_reducible rfl))
 refine Late.tk 9 ?_ ?_ hH ?_ (hw:=by kernel_rfl);rotate_left;focus (intro wy hSw;(try dsimp only at hSw);obtain ⟨k0,k1,k2,k3⟩:=HC.out wy hSw;go_simp;try (with_reducible rfl))
 refine Late.tk 10 ?_ ?_ hH ?_ (hw:=by kernel_rfl);rotate_left;focus (intro wy hSw;(try dsimp only at hSw);obtain ⟨k0,k1,k2,k3⟩:=HC.out wy hSw;go_simp;try (with_reducible rfl))
 refine Late.tk 11 ?_ ?_ hH ?_ (hw:=by kernel_rfl);rotate_left;focus (intro wy hSw;(try dsimp only at hSw);obtain ⟨k0,k1,k2,k3⟩:=HC.out wy hSw;go_simp;try (with_reducible rfl))
 refine Late.tk 12 ?_ ?_ hH ?_ (hw:=by kernel_rfl);rotate_left;focus (intro wy hSw;(try dsimp only at hSw);obtain ⟨k0,k1,k2,k3⟩:=HC.out wy hSw;go_simp;try (with_reducible rfl))
 refine Late.tk 13 ?_ ?_ hH ?_ (hw:=by kernel_rfl);rotate_left;focus (intro wy hSw;(try dsimp only at hSw);obtain ⟨k0,k1,k2,k3⟩:=HC.out wy hSw;go_simp;try (with_reducible rfl))
 refine Late.tk 14 ?_ ?_ hH ?_ (hw:=by kernel_rfl);rotate_left;focus (intro wy hSw;(try dsimp only at hSw);obtain ⟨k0,k1,k2,k3⟩:=HC.out wy hSw;go_simp;try (with_reducible rfl))
 refine Late.tk 15 ?_ ?_ hH ?_ (hw:=by kernel_rfl);rotate_left;focus (intro wy hSw;(try dsimp only at hSw);obtain ⟨k0,k1,k2,k3⟩:=HC.out wy hSw;go_simp;try (with_reducible rfl))
 refine Late.tk 16 ?_ ?_ hH ?_ (hw:=by kernel_rfl);rotate_left;focus (intro wy hSw;(try dsimp only at hSw);obtain ⟨k0,k1,k2,k3⟩:=HC.out wy hSw;go_simp;try (with_reducible rfl))
 refine Late.tk 17 ?_ ?_ hH ?_ (hw:=by kernel_rfl);rotate_left;focus (intro wy hSw;(try dsimp only at hSw);obtain ⟨k0,k1,k2,k3⟩:=HC.out wy hSw;go_simp;try (with_reducible rfl))
 refine Late.tk 18 ?_ ?_ hH ?_ (hw:=by kernel_rfl);rotate_left;focus (intro wy hSw;(try dsimp only at hSw);obtain ⟨k0,k1,k2,k3⟩:=HC.out wy hSw;go_simp;try (with_reducible rfl))
 refine Late.tk 19 ?_ ?_ hH ?_ (hw:=by kernel_rfl);rotate_left;focus (intro wy hSw;(try dsimp only at hSw);obtain ⟨k0,k1,k2,k3⟩:=HC.out wy hSw;go_simp;try (with_reducible rfl))
 try simp only [Act.put,List.setIfInBounds_toArray,List.set_cons_zero,List.set_cons_succ]
 refine Late.Goes.done (by kernel_rfl) ?_ _
 have HV:=Lib.hid hH
 clear hH n1 n2
 have HX2:=Lib.hid (And.intro (HX1.out.1.but HV.out (fun h=>h)) (HX1.out.2.but HV.out (fun h=>h)))
 have HM2:=Lib.hid (HM1.out.new HV.out)
 have HB2:=Lib.hid (HB1.out.trans HV.out (fun _ _ h=>h))
 generalize w1.drew=w2 at HX2 HM2 HB2 ⊢
 have c0:w2.cell? ⟨b4,0,none⟩=some (.int .i64 5):=by
  have h:w2.cell? ⟨b4,0,none⟩=some (.int .i64 r.kind):=HX2.out.1.cell 0
  rw [HK.out] at h
  exact h
 clear HX1 HM1 HC HV
 have hgd:=HO.out.toks
 have c7:w2.cell? ⟨b4,7,none⟩=some (.int .u32 (r.serial:Int)):=HX2.out.1.cell 7
 have HTK:=Lib.hid (token_any HM2.out hgd.ris (by have:=hgd.len;omega) r.serial)
 have hq:=Rgt.plc_le r.serial B.toks
 have hlen100:=hgd.len
 have HPL:=Lib.hid (show B.toks.take (Rgt.plc r.serial B.toks)++[tokOf r]++B.toks.drop (Rgt.plc r.serial B.toks+if (Rgt.look r.serial B.toks).isSome then 1 else 0)=Rgt.put (tokOf r) B.toks from Rgt.put_plc (x:=tokOf r) hgd.ris)
 have HQN:=Lib.hid (show (Rgt.look r.serial B.toks).isSome=true→Rgt.plc r.serial B.toks < B.toks.length from fun hb=>((Rgt.plc_look hgd.ris).1 hb).1)
 obtain ⟨q,hqe⟩:∃ q,q=Rgt.plc r.serial B.toks:=⟨_,rfl⟩
 rw [← hqe] at HTK hq HPL HQN
 clear hqe
 obtain ⟨b,hbe⟩:∃ b,b=(Rgt.look r.serial B.toks).isSome:=⟨_,rfl⟩
 rw [← hbe] at HTK HPL HQN
 have HBE:=Lib.hid hbe
 clear hbe hgd
 go_wp2_with fail
 refine HTK.out.mono ?_
 rintro e w3 ⟨rfl,hb3⟩
 have HX3:=Lib.hid (HX2.out.1.but hb3 (fun h=>h))
 have HM3:=Lib.hid (HM2.out.new hb3)
 have HB3:=Lib.hid (HB2.out.trans hb3 (fun _ _ h=>h))
 clear hb3 c0 c7
 obtain ⟨N,hN⟩:∃ N,N=B.toks.length:=⟨_,rfl⟩
 have HNN:=Lib.hid hN
 have hrow:=HM3.out.toks
 rw [← hN] at hrow hq hlen100
 obtain ⟨at0,ct0,htv,_⟩:=own_form hrow
 have HTV:=Lib.hid htv
 clear hN
 have hbf:b=false:=HBE.out.trans HLK.out
 subst hbf
 have HLT:=Lib.hid (show (Rgt.look r.serial B.toks).isSome=false→¬ (100:Int)≤(N:Int) from fun h0=>by
  rcases HFU.out with h1|h1
  ·rw [h0] at h1;cases h1
  ·rw [HNN.out];omega)
 have hqb:q≤N:=by omega
 have h100:¬ (100:Int)≤(N:Int):=HLT.out HLK.out
 obtain ⟨i0,hi0,hz⟩:=Option.map_eq_some_iff.1 rzero
 simp only [Prod.mk.injEq] at hz
 obtain ⟨hz0,hz1,hz2⟩:=hz
 obtain ⟨y1,hy1,hs1⟩:=own_head hrow Tryz.underlying62 size_rec (i:=q) (by omega)
 obtain ⟨y2,hy2,hs2⟩:=own_tail hrow Tryz.underlying62 size_rec (i:=q) hqb
 have HS1:=Lib.hid hs1
 have HS2:=Lib.hid hs2
 have HY1:=Lib.hid hy1
 have HY2:=Lib.hid (show ∀ V,(Instr.sliceAt 62 tv (some (.int .i64 (q:Int))) none none).run Tryz.prog V = .ok y2 V from hy2)
 have HC8:=Lib.hid (fun V (hV:But (fun _=>False) w3 V)=>show V.cell? ⟨rp,8,none⟩=some tv from (HM3.out.new hV).blk.cell 8)
 have HF8:=Lib.hid (fun V (hV:But (fun _=>False) w3 V)=>show V.frozen? ⟨rp,8,none⟩=false from (HM3.out.new hV).blk.frozen 8)
 have HO2:=Lib.hid (own_new w3 35 14 (by omega))
 have HTVV:=Lib.hid htv
 clear hs1 hs2 hy1 hy2 hrow
 subst htv
 have k8:w3.cell? ⟨rp,8,none⟩=some (.slice at0 N ct0):=HC8.out _ (But.refl _ _)
 have k8a:(w3.alloc (.cells #[] 35)).cell? ⟨rp,8,none⟩=some (.slice at0 N ct0):=HC8.out _ ((But.refl _ w3).alloc _)
 have HRG:=Lib.hid (fun V (hV:But (fun _=>False) w3 V)=>show V.rangeAt b4 0 (rcs r) from blk_range0 (A:=[]) (B:=rcs r) (HX3.out.but hV (fun h=>h)))
 obtain ⟨n,hn⟩:∃ n,n=r.serial:=⟨_,rfl⟩
 obtain ⟨cs,hcs⟩:∃ c,c=B.serial:=⟨_,rfl⟩
 obtain ⟨vs,hvs⟩:∃ v:Nat,v=min (n+1) 4294967295:=⟨_,rfl⟩
 have HSB:=Lib.hid (show b32 B.serial r.serial=max cs vs from by rw [hvs,hcs,hn];rfl)
 have HSN:=Lib.hid hn
 have HSC:=Lib.hid hcs
 have hnb:n < 4294967296:=by rw [hn];exact HIS.out.serial
 have HCS:=Lib.hid (show (decide ((n:Int) < 4294967295)=true∧IntKind.u32.wrap ((n:Int)+1)=(vs:Int))∨(decide ((n:Int) < 4294967295)=false∧n=vs) from by
  by_cases ht:n < 4294967295
  ·exact .inl ⟨decide_eq_true (by omega),by rw [IntWalk.u32_in _ (by omega)];omega⟩
  ·exact .inr ⟨decide_eq_false (by omega),by omega⟩)
 have HCG:=Lib.hid (show (decide ((cs:Int) < (vs:Int))=true∧cs < vs)∨(decide ((cs:Int) < (vs:Int))=false∧¬ cs < vs) from by
  by_cases ht:cs < vs
  ·exact .inl ⟨decide_eq_true (by omega),ht⟩
  ·exact .inr ⟨decide_eq_false (by omega),ht⟩)
 clear hn hcs hvs hnb
 go_wp2_with (first
  | (refine wpList_slice rfl 62 (.tmp 106) none (some (.tmp 107)) rfl (.slice at0 N ct0) y1 none (some (.int .i64 (q:Int))) rfl rfl rfl (HY1.out _) ?_)
  | (at_builtin;refine wpList_append_onto rfl (.tmp 102) (.tmp 108) _ rfl w3.heap.size 35 i0 _ 14 128 Tryz.underlying62 hi0 hz0 hz1 hz2 rfl (by omega) (.slice (some ⟨w3.heap.size,0,none⟩) 0 0) 0 [] rfl HO2.out y1 q _ rfl (HS1.out _ ((But.refl _ w3).alloc _)) (fun u hu=>rcl_one _ u (List.mem_of_mem_take hu)) (by simp only [maxLen];omega) (by omega) (by simp) ?_
     intro v4 w4 ho4 hon4
     rw [List.nil_append,Nat.zero_add] at ho4
     have hb4:But (fun _=>False) w3 w4:=((But.refl (fun _=>False) w3).alloc (.cells #[] 35)).trans hon4.but (fun i hi e=>by
      have e2:i=w3.heap.size:=Option.some.inj e
      omega)
     have HO4:=Lib.hid ho4
     have HB4:=Lib.hid hb4
     have HRG4:=Lib.hid (show w4.rangeAt b4 0 [.int .i64 r.kind,.int .i64 r.bucket,.int .u32 (r.gen:Int),.int .i64 r.keys,.int .i64 r.bytes,.int .i64 r.budget,.int .u64 (r.seq:Int),.int .u32 (r.serial:Int),.int .i64 r.rights,.int .u64 (r.secret:Int),.string r.key,.string r.val,.int .u64 (r.version:Int),.int .u64 (r.expiry:Int)] from HRG.out _ hb4)
     clear ho4 hon4 hb4 k8 k8a)
  | (refine wpList_load_mid rfl 35 _ rfl b4 0 rfl [.int .i64 r.kind,.int .i64 r.bucket,.int .u32 (r.gen:Int),.int .i64 r.keys,.int .i64 r.bytes,.int .i64 r.budget,.int .u64 (r.seq:Int),.int .u32 (r.serial:Int),.int .i64 r.rights,.int .u64 (r.secret:Int),.string r.key,.string r.val,.int .u64 (r.version:Int),.int .u64 (r.expiry:Int)] _ HRG4.out Tryz.underlying35 rfl Rec.rec_size ?_)
  | (at_builtin;refine wpList_append_onto rfl (.tmp 110) (.tmp 112) _ rfl w3.heap.size 35 i0 _ 14 128 Tryz.underlying62 hi0 hz0 hz1 hz2 rfl (by omega) v4 q _ rfl (ownsRow_but HO4.out ((But.refl (fun _=>False) w4).alloc (.cells (rcs r).toArray 35)) (fun _ _ h=>h)) (.slice (some ⟨w4.heap.size,0,none⟩) 1 1) 1 (rcs r) rfl (sees_one w4 _ _ _ 14 rfl rfl) (rcs_one r) (by simp only [maxLen];omega) (by omega) (by have:=HB4.out.size;simp;omega) ?_
     intro v5 w5 ho5 hon5
     have hb5:But (fun _=>False) w3 w5:=(HB4.out.alloc (.cells (rcs r).toArray 35)).trans hon5.but (fun i hi e=>by have:=(HO4.out.lt i e.symm).1;omega)
     have k8:=HC8.out _ hb5
     have HO5:=Lib.hid ho5
     have HB5:=Lib.hid hb5
     clear ho5 hon5 hb5)
  | (refine wpList_slice rfl 62 (.tmp 122) (some (.tmp 123)) none rfl (.slice at0 N ct0) y2 (some (.int .i64 (q:Int))) none rfl rfl rfl (HY2.out _) ?_)
  | (at_builtin;refine wpList_append_onto rfl (.tmp 118) (.tmp 124) _ rfl w3.heap.size 35 i0 _ 14 128 Tryz.underlying62 hi0 hz0 hz1 hz2 rfl (by omega) v5 (q+1) _ rfl HO5.out y2 (N - q) _ rfl (HS2.out _ HB5.out) (fun u hu=>rcl_one _ u (List.mem_of_mem_drop hu)) (by simp only [maxLen];omega) (by omega) (by have:=HB5.out.size;omega) ?_
     intro v6 w6 ho6 hon6
     obtain ⟨L6,hL6⟩:∃ L,L=q+1+(N - q):=⟨_,rfl⟩
     rw [← hL6] at ho6
     have HL6:=Lib.hid hL6
     clear hL6
     obtain ⟨a6,c6,rfl,_⟩:=own_form ho6
     have hb6:But (fun _=>False) w3 w6:=HB5.out.trans hon6.but (fun i hi e=>by have:=(HO5.out.lt i e.symm).1;omega)
     have k8:=HC8.out _ hb6
     have f8:=HF8.out _ hb6
     have hrw:w6.ownsRow w3.heap.size 35 14 (.slice a6 L6 c6) (Rgt.put (tokOf r) B.toks).length (rcl ((Rgt.put (tokOf r) B.toks).map (tokR B.id B.gen))):=by
      have h1:=ho6
      have h2:=HPL.out
      simp only [if_true,if_false,Bool.false_eq_true,Nat.add_zero,reduceIte] at h2
      rw [← h2,List.map_append,List.map_append,List.map_take,List.map_drop,rcl_append,rcl_append]
      rw [show (rcl (B.toks.map (tokR B.id B.gen))).take (q * 14)=rcl ((B.toks.map (tokR B.id B.gen)).take q) from flat_take rcs_length _ q,show (rcl (B.toks.map (tokR B.id B.gen))).drop (q * 14)=rcl ((B.toks.map (tokR B.id B.gen)).drop q) from flat_drop rcs_length _ _] at h1
      rw [show rcl ([tokOf r].map (tokR B.id B.gen))=rcs r from by
       show rcs (tokR B.id B.gen (tokOf r))++[]=_
       rw [List.append_nil,← HFORM.out]]
      rw [show (B.toks.take q++[tokOf r]++B.toks.drop q).length=L6 from by
       rw [List.length_append,List.length_append,List.length_take,List.length_drop,← HNN.out,HL6.out]
       simp
       omega]
      exact h1
     have HE:=Lib.hid ((HM3.out.new hb6).sett hrw)
     have HXE:=Lib.hid ((HX3.out.but hb6 (fun h=>h)).but HE.out.2 HNR.out.1)
     have HBE6:=Lib.hid (((HB3.out.trans hb6 (fun _ _ h=>h)).mono (fun _ _ h=>h.elim)).trans' HE.out.2)
     clear ho6 hon6 hb6 hrw
     refine Hid.out ?_))
 refine Lib.hid ?_
 rw [show decide ((100:Int)≤(N:Int))=false from decide_eq_false (by have:=HLT.out HLK.out;omega)]
 clear h100
 have c7:(w6.setCell ⟨rp,8,none⟩ (.slice a6 L6 c6)).cell? ⟨b4,7,none⟩=some (.int .u32 (n:Int)):=by rw [HSN.out];exact HXE.out.cell 7
 have k6:(w6.setCell ⟨rp,8,none⟩ (.slice a6 L6 c6)).cell? ⟨rp,6,none⟩=some (.int .u32 (cs:Int)):=by rw [HSC.out];exact HE.out.1.blk.cell 6
 have f6:(w6.setCell ⟨rp,8,none⟩ (.slice a6 L6 c6)).frozen? ⟨rp,6,none⟩=false:=HE.out.1.blk.frozen 6
 rcases HCS.out with ⟨hti,hw1⟩|⟨hti,hnv⟩
 rotate_left
 subst hnv
 all_goals
  rcases HCG.out with ⟨hgi,hgt⟩|⟨hgi,hgt⟩
 all_goals
  have HTI:=Lib.hid hti
  have HGI:=Lib.hid hgi
  have HGT:=Lib.hid hgt
  clear hti hgi hgt
  repeat (first|rw [HTI.out]|rw [@decide_eq_true _ _ HGT.out]|rw [@decide_eq_false _ _ HGT.out]|go_values|go_skip|go_guarded|go_step|go_upon)
  clear HTI HGI HCS HCG
  try clear hw1
 have hs1:b32 B.serial r.serial=n:=by rw [HSB.out];have:=HGT.out;omega
 have HT6:=Lib.hid (HE.out.1.set_ 6 (.int .u32 (n:Int)) (B':={ B with toks:=Rgt.put (tokOf r) B.toks,serial:=n }) rfl rfl rfl rfl)
 have HMz:=Lib.hid (show RM ((w6.setCell ⟨rp,8,none⟩ (.slice a6 L6 c6)).setCell ⟨rp,6,none⟩ (.int .u32 (n:Int))) rp kv (.slice a6 L6 c6) { B with toks:=Rgt.put (tokOf r) B.toks,serial:=b32 B.serial r.serial } Ks from by rw [hs1];exact HT6.out.1)
 have HXz:=Lib.hid (HXE.out.but HT6.out.2 HNR.out.1)
 have HBz:=Lib.hid (HBE6.out.trans' HT6.out.2)
 clear hs1 HT6 c7 k6 f6
 generalize (w6.setCell ⟨rp,8,none⟩ (.slice a6 L6 c6)).setCell ⟨rp,6,none⟩ (.int .u32 (n:Int))=wz at HMz HXz HBz ⊢
 rotate_left
 have hs1:b32 B.serial r.serial=B.serial:=by rw [HSB.out,← HSC.out];have:=HGT.out;omega
 have HMz:=Lib.hid (show RM (w6.setCell ⟨rp,8,none⟩ (.slice a6 L6 c6)) rp kv (.slice a6 L6 c6) { B with toks:=Rgt.put (tokOf r) B.toks,serial:=b32 B.serial r.serial } Ks from by rw [hs1];exact HE.out.1)
 have HXz:=Lib.hid HXE.out
 have HBz:=Lib.hid HBE6.out
 clear hs1 c7 k6 f6
 generalize w6.setCell ⟨rp,8,none⟩ (.slice a6 L6 c6)=wz at HMz HXz HBz ⊢
 rotate_left
 have hs1:b32 B.serial r.serial=vs:=by rw [HSB.out];have:=HGT.out;omega
 have HT6:=Lib.hid (HE.out.1.set_ 6 (.int .u32 (vs:Int)) (B':={ B with toks:=Rgt.put (tokOf r) B.toks,serial:=vs }) rfl rfl rfl rfl)
 have HMz:=Lib.hid (show RM ((w6.setCell ⟨rp,8,none⟩ (.slice a6 L6 c6)).setCell ⟨rp,6,none⟩ (.int .u32 (vs:Int))) rp kv (.slice a6 L6 c6) { B with toks:=Rgt.put (tokOf r) B.toks,serial:=b32 B.serial r.serial } Ks from by rw [hs1];exact HT6.out.1)
 have HXz:=Lib.hid (HXE.out.but HT6.out.2 HNR.out.1)
 have HBz:=Lib.hid (HBE6.out.trans' HT6.out.2)
 clear hs1 HT6 c7 k6 f6
 generalize (w6.setCell ⟨rp,8,none⟩ (.slice a6 L6 c6)).setCell ⟨rp,6,none⟩ (.int .u32 (vs:Int))=wz at HMz HXz HBz ⊢
 rotate_left
 have hs1:b32 B.serial r.serial=B.serial:=by rw [HSB.out,← HSC.out];have:=HGT.out;omega
 have HMz:=Lib.hid (show RM (w6.setCell ⟨rp,8,none⟩ (.slice a6 L6 c6)) rp kv (.slice a6 L6 c6) { B with toks:=Rgt.put (tokOf r) B.toks,serial:=b32 B.serial r.serial } Ks from by rw [hs1];exact HE.out.1)
 have HXz:=Lib.hid HXE.out
 have HBz:=Lib.hid HBE6.out
 clear hs1 c7 k6 f6
 generalize w6.setCell ⟨rp,8,none⟩ (.slice a6 L6 c6)=wz at HMz HXz HBz ⊢
 rotate_left
 all_goals
  obtain ⟨c,hc⟩:∃ c,c=Rec.costOf r:=⟨_,rfl⟩
  have HCC:=Lib.hid hc
  have HCB:=Lib.hid (show 14≤c∧c≤1098 from by rw [hc];exact HCO.out)
  clear hc
  obtain ⟨z,hz⟩:∃ z,z=B.charged:=⟨_,rfl⟩
  have HZZ:=Lib.hid hz
  have HZB:=Lib.hid (show 0≤z∧z≤1000000000∧14≤c∧c≤1098 from ⟨by rw [hz];exact HO.out.charged.1,by rw [hz];exact HO.out.charged.2,HCB.out.1,HCB.out.2⟩)
  clear hz
  obtain ⟨Bch,hBch⟩:∃ b:Bk,b={ B with serial:=b32 B.serial r.serial,toks:=Rgt.put (tokOf r) B.toks,charged:=z+c }:=⟨_,rfl⟩
  have HBC:=Lib.hid (show (rmcells { B with toks:=Rgt.put (tokOf r) B.toks,serial:=b32 B.serial r.serial } kv (.slice a6 L6 c6)).setIfInBounds 9 (.int .i64 (z+c))=rmcells Bch kv (.slice a6 L6 c6)∧Bch.toks={ B with toks:=Rgt.put (tokOf r) B.toks,serial:=b32 B.serial r.serial }.toks∧Bch.id={ B with toks:=Rgt.put (tokOf r) B.toks,serial:=b32 B.serial r.serial }.id∧Bch.gen={ B with toks:=Rgt.put (tokOf r) B.toks,serial:=b32 B.serial r.serial }.gen from by rw [hBch];exact ⟨rfl,rfl,rfl,rfl⟩)
  have HEND:=Lib.hid (show bapp B r=Bch∧kapp B r p Ks=Ks from by
   have ht:told B r=true:=by unfold told;rw [decide_eq_true HOW.out,HK.out];rw [decide_eq_true HPE.out];rfl
   unfold bapp kapp kmade made
   rw [ht,HK.out,hBch,HZZ.out,HCC.out]
   exact ⟨rfl,rfl⟩)
  clear hBch
  have HCZ:=Lib.hid (fun V (hV:But (fun _=>False) wz V)=>And.intro (show V.cell? ⟨rp,9,none⟩=some (.int .i64 z) from by
   have:=(HMz.out.new hV).blk.cell 9
   rw [HZZ.out]
   exact this) (show V.frozen? ⟨rp,9,none⟩=false from (HMz.out.new hV).blk.frozen 9))
  have HRZ:=Lib.hid (fun V (hV:But (fun _=>False) wz V)=>show V.rangeAt b4 0 (rcs r) from blk_range0 (A:=[]) (B:=rcs r) (HXz.out.but hV (fun h=>h)))
  have ww:IntKind.i64.wrap (z+c)=z+c:=IntWalk.i64_in _ (by have:=HZB.out;omega)
  go_wp2_with fail
  refine Late.region_goes (fun V=>But (fun _=>False) wz V) (fun j=>j == 10) (by kernel_rfl) ?_ (fun hH=>?_)
  ·exact (But.refl _ wz).drew
  refine Late.tk 0 ?_ ?_ hH ?_;rotate_left 2
  refine Late.tk 1 ?_ ?_ hH ?_;rotate_left 2
  refine Late.tk 2 ?_ ?_ hH ?_;rotate_left 2
  refine Late.tk 3 ?_ ?_ hH ?_;rotate_left 2
  refine Late.tk 4 ?_ ?_ hH ?_;rotate_left 2
  rotate_left
  any_goals (intro wy hSw;(try dsimp only at hSw);have k0:=(HCZ.out wy hSw).1;go_simp;try (with_reducible rfl))
  try simp only [Act.put,List.setIfInBounds_toArray,List.set_cons_zero,List.set_cons_succ]
  refine Late.Goes.takeT (i:=5) (v:=_) (by simp only [List.getElem?_toArray,List.getElem?_cons_succ,List.getElem?_cons_zero];rfl) (by kernel_rfl) (by kernel_rfl) (by kernel_rfl) (by kernel_rfl) (by kernel_rfl) (by exact fun _ _ _ h=>h) (yields_rec (by rfl) _ rfl b4 0 rfl r (fun V hV=>HRZ.out V hV)) hH ?_
  try simp only [Act.put,List.setIfInBounds_toArray,List.set_cons_zero,List.set_cons_succ]
  have HVz:=Lib.hid hH
  refine Late.Goes.one (i:=6) (by kernel_rfl) (by simp only [List.getElem?_toArray,List.getElem?_cons_succ,List.getElem?_cons_zero];rfl) (fun K hK=>?_)
  clear hH
  go_simp
  go_at_call 40
  refine (Rec.refCost_any r HOW.out.1 HIS.out _).mono ?_
  rintro e wy ⟨rfl,hbe⟩
  rw [← HCC.out]
  have HVy:=Lib.hid (HVz.out.trans (But.of_new hbe:But (fun _=>False) _ _) (fun _ _ h=>h))
  clear hbe
  refine hK.out _ _ ?_ (fun hH=>?_)
  ·exact fun _=>HVy.out
  clear hK K
  have hH:=hH rfl
  try simp only [Act.put,List.setIfInBounds_toArray,List.set_cons_zero,List.set_cons_succ]
  refine Late.tk 7 ?_ ?_ hH ?_;rotate_left 2
  refine Late.tk 8 ?_ ?_ hH ?_;rotate_left 2
  refine Late.tk 9 ?_ ?_ hH ?_;rotate_left 2
  rotate_left
  any_goals (intro wy hSw;(try dsimp only at hSw);have k0:=(HCZ.out wy hSw).1;go_simp;try (with_reducible rfl))
  try simp only [Act.put,List.setIfInBounds_toArray,List.set_cons_zero,List.set_cons_succ]
  have k9:=(HCZ.out _ HVy.out).1
  have f9:=(HCZ.out _ HVy.out).2
  refine Late.Goes.one (i:=10) (by kernel_rfl) (by simp only [List.getElem?_toArray,List.getElem?_cons_succ,List.getElem?_cons_zero];rfl) (fun K hK=>?_)
  clear hH
  go_simp
  clear k9 f9
  have HF:=Lib.hid ((HMz.out.new HVy.out).set_ 9 (.int .i64 (z+c)) (B':=Bch) HBC.out.1 HBC.out.2.1 HBC.out.2.2.1 HBC.out.2.2.2)
  generalize wy.setCell ⟨rp,9,none⟩ (.int .i64 (z+c))=wx at HF ⊢
  refine hK.out _ _ ?_ (fun _=>?_)
  ·exact fun h=>by cases h
  clear hK K
  try simp only [Act.put,List.setIfInBounds_toArray,List.set_cons_zero,List.set_cons_succ]
  refine Late.Goes.done (by kernel_rfl) ?_ _
  have HEB:=Lib.hid ((HBz.out.trans' (HVy.out.mono (fun _ _ h=>h.elim))).trans' HF.out.2)
  go_wp2_with fail
  go_ret
  rw [HEND.out.1,HEND.out.2]
  exact ⟨rfl,⟨_,_,HF.out.1⟩,HEB.out⟩
theorem rap_tokr (h:RM w rp kv tv B Ks) (o:ROk B Ks) (r:Rcd) (hr:Rec.Is r) (p:Spt) (hp:SpOk p) (hown:Own B r) (hk:r.kind=5) (hpe:Rgt.putErr r.serial r.rights B.toks=0) (hlk:(Rgt.look r.serial B.toks).isSome=true) :
  Calls Tryz.prog 10 #[.pointer (some ⟨rp,0,none⟩),Rec.rv r,spV p] w fun e w'=>e = .returned (.bool true)∧RSays w rp (bapp B r) (kapp B r p Ks) w':=by
 have HPE:=Lib.hid hpe
 have HLK:=Lib.hid hlk
 have HFU:=Lib.hid (show (Rgt.look r.serial B.toks).isSome=true∨B.toks.length < 100 from by
  have hf:=hown.1.2.2.2.2.2.2
  unfold Rec.fits at hf
  rw [if_neg (by rw [hk];decide),if_neg (by rw [hk];decide),if_neg (by rw [hk];decide),if_pos hk] at hf
  unfold Rgt.putErr at hpe
  rw [if_neg (by omega)] at hpe
  by_cases hc:Rgt.look r.serial B.toks=none∧100≤B.toks.length
  ·rw [if_pos hc] at hpe
   exact absurd hpe (by decide)
  ·cases hl:Rgt.look r.serial B.toks with
   | some x=>exact .inl rfl
   | none=>right;exact Nat.lt_of_not_le (fun h=>hc ⟨hl,h⟩))
 have HFORM:=Lib.hid (tok_form hown hk)
 clear hpe hlk
 have n1:(r.bucket != B.id)=false:=by simpa using hown.2.1
 have n2:((r.gen:Int) != (B.gen:Int))=false:=by have:=hown.2.2;simp;omega
 have HOW:=Lib.hid hown
 have HK:=Lib.hid hk
 clear hk
 have HCO:=Lib.hid (cost_le hown.1)
 clear hown
 have HX:=Lib.hid (Blk.two w (Rec.cells r) (spB p) 35 37)
 have HB0:=Lib.hid (((But.refl (fun _=>False) w).alloc (.cells (Rec.cells r) 35)).alloc (.cells (spB p) 37))
 have HH:=Lib.hid h
 have HO:=Lib.hid o
 have HIS:=Lib.hid hr
 have hrlt:=h.lt
 clear h o hr hp
 change Calls _ _ #[.pointer (some ⟨rp,0,none⟩),.agg #[.int .i64 r.kind,.int .i64 r.bucket,.int .u32 (r.gen:Int),.int .i64 r.keys,.int .i64 r.bytes,.int .i64 r.budget,.int .u64 (r.seq:Int),.int .u32 (r.serial:Int),.int .i64 r.rights,.int .u64 (r.secret:Int),.string r.key,.string r.val,.int .u64 (r.version:Int),.int .u64 (r.expiry:Int)],.agg #[.int .i64 p.1,.int .i64 p.2.1,.int .i64 p.2.2]] w _
 go_enter Tryz.func10,Tryz.ntmps10
 go_wp2_with (refine wpList_load_row rfl 35 _ rfl w.heap.size rfl 35 _ (0,0) _ HX.out.1 Tryz.underlying35 rfl Rec.rec_size ?_)
 change Calls _ _ _ ((w.alloc (.cells (Rec.cells r) 35)).alloc (.cells (spB p) 37)) _
 obtain ⟨b4,hb4⟩:∃ b,b=w.heap.size:=⟨_,rfl⟩
 rw [← hb4] at HX
 rw [← hb4]
 generalize (w.alloc (.cells (Rec.cells r) 35)).alloc (.cells (spB p) 37)=W at HX HB0 ⊢
 have HNR:=Lib.hid (show b4≠rp∧b4+1≠rp from by omega)
 clear hb4 hrlt
 refine (Rec.refMay_any r _).mono ?_
 rintro e w1 ⟨rfl,hbe⟩
 have hv1:But (fun _=>False) W w1:=But.of_new hbe
 have HX1:=Lib.hid (And.intro (HX.out.1.but hv1 (fun h=>h)) (HX.out.2.but hv1 (fun h=>h)))
 have HB1:=Lib.hid (HB0.out.trans hv1 (fun _ _ h=>h))
 have HM1:=Lib.hid (HH.out.new HB1.out)
 clear hbe hv1 HX HB0
 rw [decide_eq_true HOW.out.1]
 have HC:=Lib.hid (fun V (hV:But (fun _=>False) w1 V)=>(And.intro (show V.cell? ⟨rp,0,none⟩=some (.int .i64 B.id) from (HM1.out.new hV).blk.cell 0) (And.intro (show V.cell? ⟨rp,1,none⟩=some (.int .u32 (B.gen:Int)) from (HM1.out.new hV).blk.cell 1) (And.intro (show V.cell? ⟨b4,1,none⟩=some (.int .i64 r.bucket) from (HX1.out.1.but hV (fun h=>h)).cell 1) (show V.cell? ⟨b4,2,none⟩=some (.int .u32 (r.gen:Int)) from (HX1.out.1.but hV (fun h=>h)).cell 2)))))
 go_wp2_with fail
 refine Late.region_goes (fun V=>But (fun _=>False) w1 V) (fun _=>false) (by kernel_rfl) ?_ (fun hH=>?_)
 ·exact (But.refl _ w1).drew
 refine Late.tk 0 ?_ ?_ hH ?_ (hw:=by kernel_rfl);rotate_left;focus (intro wy hSw;(try dsimp only at hSw);obtain ⟨k0,k1,k2,k3⟩:=HC.out wy hSw;go_simp;try (with_reducible rfl))
 refine Late.tk 1 ?_ ?_ hH ?_ (hw:=by kernel_rfl);rotate_left;focus (intro wy hSw;(try dsimp only at hSw);obtain ⟨k0,k1,k2,k3⟩:=HC.out wy hSw;go_simp;try (with_reducible rfl))
 refine Late.tk 2 ?_ ?_ hH ?_ (hw:=by kernel_rfl);rotate_left;focus (intro wy hSw;(try dsimp only at hSw);obtain ⟨k0,k1,k2,k3⟩:=HC.out wy hSw;go_simp;try (with_reducible rfl))
 refine Late.tk 3 ?_ ?_ hH ?_ (hw:=by kernel_rfl);rotate_left;focus (intro wy hSw;(try dsimp only at hSw);obtain ⟨k0,k1,k2,k3⟩:=HC.out wy hSw;go_simp;try (with_reducible rfl))
 refine Late.tk 4 ?_ ?_ hH ?_ (hw:=by kernel_rfl);rotate_left;focus (intro wy hSw;(try dsimp only at hSw);obtain ⟨k0,k1,k2,k3⟩:=HC.out wy hSw;go_simp;try (with_reducible rfl))
 refine Late.tk 5 ?_ ?_ hH ?_ (hw:=by kernel_rfl);rotate_left;focus (intro wy hSw;(try dsimp only at hSw);obtain ⟨k0,k1,k2,k3⟩:=HC.out wy hSw;go_simp;try (with_reducible rfl))
 refine Late.tk 6 ?_ ?_ hH ?_ (hw:=by kernel_rfl);rotate_left;focus (intro wy hSw;(try dsimp only at hSw);obtain ⟨k0,k1,k2,k3⟩:=HC.out wy hSw;go_simp;try (with_reducible rfl))
 refine Late.tk 7 ?_ ?_ hH ?_ (hw:=by kernel_rfl);rotate_left;focus (intro wy hSw;(try dsimp only at hSw);obtain ⟨k0,k1,k2,k3⟩:=HC.out wy hSw;go_simp;try (with_reducible rfl))
 refine Late.tk 8 ?_ ?_ hH ?_ (hw:=by kernel_rfl);rotate_left;focus (intro wy hSw;(try dsimp only at hSw);obtain ⟨k0,k1,k2,k3⟩:=HC.out wy hSw;go_simp;try (with_reducible rfl))
 refine Late.tk 9 ?_ ?_ hH ?_ (hw:=by kernel_rfl);rotate_left;focus (intro wy hSw;(try dsimp only at hSw);obtain ⟨k0,k1,k2,k3⟩:=HC.out wy hSw;go_simp;try (with_reducible rfl))
 refine Late.tk 10 ?_ ?_ hH ?_ (hw:=by kernel_rfl);rotate_left;focus (intro wy hSw;(try dsimp only at hSw);obtain ⟨k0,k1,k2,k3⟩:=HC.out wy hSw;go_simp;try (with_reducible rfl))
 refine Late.tk 11 ?_ ?_ hH ?_ (hw:=by kernel_rfl);rotate_left;focus (intro wy hSw;(try dsimp only at hSw);obtain ⟨k0,k1,k2,k3⟩:=HC.out wy hSw;go_simp;try (with_reducible rfl))
 refine Late.tk 12 ?_ ?_ hH ?_ (hw:=by kernel_rfl);rotate_left;focus (intro wy hSw;(try dsimp only at hSw);obtain ⟨k0,k1,k2,k3⟩:=HC.out wy hSw;go_simp;try (with_reducible rfl))
 refine Late.tk 13 ?_ ?_ hH ?_ (hw:=by kernel_rfl);rotate_left;focus (intro wy hSw;(try dsimp only at hSw);obtain ⟨k0,k1,k2,k3⟩:=HC.out wy hSw;go_simp;try (with_reducible rfl))
 refine Late.tk 14 ?_ ?_ hH ?_ (hw:=by kernel_rfl);rotate_left;focus (intro wy hSw;(try dsimp only at hSw);obtain ⟨k0,k1,k2,k3⟩:=HC.out wy hSw;go_simp;try (with_reducible rfl))
 refine Late.tk 15 ?_ ?_ hH ?_ (hw:=by kernel_rfl);rotate_left;focus (intro wy hSw;(try dsimp only at hSw);obtain ⟨k0,k1,k2,k3⟩:=HC.out wy hSw;go_simp;try (with_reducible rfl))
 refine Late.tk 16 ?_ ?_ hH ?_ (hw:=by kernel_rfl);rotate_left;focus (intro wy hSw;(try dsimp only at hSw);obtain ⟨k0,k1,k2,k3⟩:=HC.out wy hSw;go_simp;try (with_reducible rfl))
 refine Late.tk 17 ?_ ?_ hH ?_ (hw:=by kernel_rfl);rotate_left;focus (intro wy hSw;(try dsimp only at hSw);obtain ⟨k0,k1,k2,k3⟩:=HC.out wy hSw;go_simp;try (with_reducible rfl))
 refine Late.tk 18 ?_ ?_ hH ?_ (hw:=by kernel_rfl);rotate_left;focus (intro wy hSw;(try dsimp only at hSw);obtain ⟨k0,k1,k2,k3⟩:=HC.out wy hSw;go_simp;try (with_reducible rfl))
 refine Late.tk 19 ?_ ?_ hH ?_ (hw:=by kernel_rfl);rotate_left;focus (intro wy hSw;(try dsimp only at hSw);obtain ⟨k0,k1,k2,k3⟩:=HC.out wy hSw;go_simp;try (with_reducible rfl))
 try simp only [Act.put,List.setIfInBounds_toArray,List.set_cons_zero,List.set_cons_succ]
 refine Late.Goes.done (by kernel_rfl) ?_ _
 have HV:=Lib.hid hH
 clear hH n1 n2
 have HX2:=Lib.hid (And.intro (HX1.out.1.but HV.out (fun h=>h)) (HX1.out.2.but HV.out (fun h=>h)))
 have HM2:=Lib.hid (HM1.out.new HV.out)
 have HB2:=Lib.hid (HB1.out.trans HV.out (fun _ _ h=>h))
 generalize w1.drew=w2 at HX2 HM2 HB2 ⊢
 have c0:w2.cell? ⟨b4,0,none⟩=some (.int .i64 5):=by
  have h:w2.cell? ⟨b4,0,none⟩=some (.int .i64 r.kind):=HX2.out.1.cell 0
  rw [HK.out] at h
  exact h
 clear HX1 HM1 HC HV
 have hgd:=HO.out.toks
 have c7:w2.cell? ⟨b4,7,none⟩=some (.int .u32 (r.serial:Int)):=HX2.out.1.cell 7
 have HTK:=Lib.hid (token_any HM2.out hgd.ris (by have:=hgd.len;omega) r.serial)
 have hq:=Rgt.plc_le r.serial B.toks
 have hlen100:=hgd.len
 have HPL:=Lib.hid (show B.toks.take (Rgt.plc r.serial B.toks)++[tokOf r]++B.toks.drop (Rgt.plc r.serial B.toks+if (Rgt.look r.serial B.toks).isSome then 1 else 0)=Rgt.put (tokOf r) B.toks from Rgt.put_plc (x:=tokOf r) hgd.ris)
 have HQN:=Lib.hid (show (Rgt.look r.serial B.toks).isSome=true→Rgt.plc r.serial B.toks < B.toks.length from fun hb=>((Rgt.plc_look hgd.ris).1 hb).1)
 obtain ⟨q,hqe⟩:∃ q,q=Rgt.plc r.serial B.toks:=⟨_,rfl⟩
 rw [← hqe] at HTK hq HPL HQN
 clear hqe
 obtain ⟨b,hbe⟩:∃ b,b=(Rgt.look r.serial B.toks).isSome:=⟨_,rfl⟩
 rw [← hbe] at HTK HPL HQN
 have HBE:=Lib.hid hbe
 clear hbe hgd
 go_wp2_with fail
 refine HTK.out.mono ?_
 rintro e w3 ⟨rfl,hb3⟩
 have HX3:=Lib.hid (HX2.out.1.but hb3 (fun h=>h))
 have HM3:=Lib.hid (HM2.out.new hb3)
 have HB3:=Lib.hid (HB2.out.trans hb3 (fun _ _ h=>h))
 clear hb3 c0 c7
 obtain ⟨N,hN⟩:∃ N,N=B.toks.length:=⟨_,rfl⟩
 have HNN:=Lib.hid hN
 have hrow:=HM3.out.toks
 rw [← hN] at hrow hq hlen100
 obtain ⟨at0,ct0,htv,_⟩:=own_form hrow
 have HTV:=Lib.hid htv
 clear hN
 have hbf:b=true:=HBE.out.trans HLK.out
 subst hbf
 have HLT:=Lib.hid (show (Rgt.look r.serial B.toks).isSome=false→¬ (100:Int)≤(N:Int) from fun h0=>by
  rcases HFU.out with h1|h1
  ·rw [h0] at h1;cases h1
  ·rw [HNN.out];omega)
 have hqb:(q+1)≤N:=by have:=HQN.out rfl;rw [HNN.out];omega
 have h100:True:=trivial
 obtain ⟨i0,hi0,hz⟩:=Option.map_eq_some_iff.1 rzero
 simp only [Prod.mk.injEq] at hz
 obtain ⟨hz0,hz1,hz2⟩:=hz
 obtain ⟨y1,hy1,hs1⟩:=own_head hrow Tryz.underlying62 size_rec (i:=q) (by omega)
 obtain ⟨y2,hy2,hs2⟩:=own_tail hrow Tryz.underlying62 size_rec (i:=(q+1)) hqb
 have HS1:=Lib.hid hs1
 have HS2:=Lib.hid hs2
 have HY1:=Lib.hid hy1
 have HY2:=Lib.hid (show ∀ V,(Instr.sliceAt 62 tv (some (.int .i64 ((q:Int)+1))) none none).run Tryz.prog V = .ok y2 V from hy2)
 have HC8:=Lib.hid (fun V (hV:But (fun _=>False) w3 V)=>show V.cell? ⟨rp,8,none⟩=some tv from (HM3.out.new hV).blk.cell 8)
 have HF8:=Lib.hid (fun V (hV:But (fun _=>False) w3 V)=>show V.frozen? ⟨rp,8,none⟩=false from (HM3.out.new hV).blk.frozen 8)
 have HO2:=Lib.hid (own_new w3 35 14 (by omega))
 have HTVV:=Lib.hid htv
 clear hs1 hs2 hy1 hy2 hrow
 subst htv
 have k8:w3.cell? ⟨rp,8,none⟩=some (.slice at0 N ct0):=HC8.out _ (But.refl _ _)
 have k8a:(w3.alloc (.cells #[] 35)).cell? ⟨rp,8,none⟩=some (.slice at0 N ct0):=HC8.out _ ((But.refl _ w3).alloc _)
 have HRG:=Lib.hid (fun V (hV:But (fun _=>False) w3 V)=>show V.rangeAt b4 0 (rcs r) from blk_range0 (A:=[]) (B:=rcs r) (HX3.out.but hV (fun h=>h)))
 obtain ⟨n,hn⟩:∃ n,n=r.serial:=⟨_,rfl⟩
 obtain ⟨cs,hcs⟩:∃ c,c=B.serial:=⟨_,rfl⟩
 obtain ⟨vs,hvs⟩:∃ v:Nat,v=min (n+1) 4294967295:=⟨_,rfl⟩
 have HSB:=Lib.hid (show b32 B.serial r.serial=max cs vs from by rw [hvs,hcs,hn];rfl)
 have HSN:=Lib.hid hn
 have HSC:=Lib.hid hcs
 have hnb:n < 4294967296:=by rw [hn];exact HIS.out.serial
 have HCS:=Lib.hid (show (decide ((n:Int) < 4294967295)=true∧IntKind.u32.wrap ((n:Int)+1)=(vs:Int))∨(decide ((n:Int) < 4294967295)=false∧n=vs) from by
  by_cases ht:n < 4294967295
  ·exact .inl ⟨decide_eq_true (by omega),by rw [IntWalk.u32_in _ (by omega)];omega⟩
  ·exact .inr ⟨decide_eq_false (by omega),by omega⟩)
 have HCG:=Lib.hid (show (decide ((cs:Int) < (vs:Int))=true∧cs < vs)∨(decide ((cs:Int) < (vs:Int))=false∧¬ cs < vs) from by
  by_cases ht:cs < vs
  ·exact .inl ⟨decide_eq_true (by omega),ht⟩
  ·exact .inr ⟨decide_eq_false (by omega),ht⟩)
 clear hn hcs hvs hnb
 go_wp2_with (first
  | (refine wpList_slice rfl 62 (.tmp 106) none (some (.tmp 107)) rfl (.slice at0 N ct0) y1 none (some (.int .i64 (q:Int))) rfl rfl rfl (HY1.out _) ?_)
  | (at_builtin;refine wpList_append_onto rfl (.tmp 102) (.tmp 108) _ rfl w3.heap.size 35 i0 _ 14 128 Tryz.underlying62 hi0 hz0 hz1 hz2 rfl (by omega) (.slice (some ⟨w3.heap.size,0,none⟩) 0 0) 0 [] rfl HO2.out y1 q _ rfl (HS1.out _ ((But.refl _ w3).alloc _)) (fun u hu=>rcl_one _ u (List.mem_of_mem_take hu)) (by simp only [maxLen];omega) (by omega) (by simp) ?_
     intro v4 w4 ho4 hon4
     rw [List.nil_append,Nat.zero_add] at ho4
     have hb4:But (fun _=>False) w3 w4:=((But.refl (fun _=>False) w3).alloc (.cells #[] 35)).trans hon4.but (fun i hi e=>by
      have e2:i=w3.heap.size:=Option.some.inj e
      omega)
     have HO4:=Lib.hid ho4
     have HB4:=Lib.hid hb4
     have HRG4:=Lib.hid (show w4.rangeAt b4 0 [.int .i64 r.kind,.int .i64 r.bucket,.int .u32 (r.gen:Int),.int .i64 r.keys,.int .i64 r.bytes,.int .i64 r.budget,.int .u64 (r.seq:Int),.int .u32 (r.serial:Int),.int .i64 r.rights,.int .u64 (r.secret:Int),.string r.key,.string r.val,.int .u64 (r.version:Int),.int .u64 (r.expiry:Int)] from HRG.out _ hb4)
     clear ho4 hon4 hb4 k8 k8a)
  | (refine wpList_load_mid rfl 35 _ rfl b4 0 rfl [.int .i64 r.kind,.int .i64 r.bucket,.int .u32 (r.gen:Int),.int .i64 r.keys,.int .i64 r.bytes,.int .i64 r.budget,.int .u64 (r.seq:Int),.int .u32 (r.serial:Int),.int .i64 r.rights,.int .u64 (r.secret:Int),.string r.key,.string r.val,.int .u64 (r.version:Int),.int .u64 (r.expiry:Int)] _ HRG4.out Tryz.underlying35 rfl Rec.rec_size ?_)
  | (at_builtin;refine wpList_append_onto rfl (.tmp 110) (.tmp 112) _ rfl w3.heap.size 35 i0 _ 14 128 Tryz.underlying62 hi0 hz0 hz1 hz2 rfl (by omega) v4 q _ rfl (ownsRow_but HO4.out ((But.refl (fun _=>False) w4).alloc (.cells (rcs r).toArray 35)) (fun _ _ h=>h)) (.slice (some ⟨w4.heap.size,0,none⟩) 1 1) 1 (rcs r) rfl (sees_one w4 _ _ _ 14 rfl rfl) (rcs_one r) (by simp only [maxLen];omega) (by omega) (by have:=HB4.out.size;simp;omega) ?_
     intro v5 w5 ho5 hon5
     have hb5:But (fun _=>False) w3 w5:=(HB4.out.alloc (.cells (rcs r).toArray 35)).trans hon5.but (fun i hi e=>by have:=(HO4.out.lt i e.symm).1;omega)
     have k8:=HC8.out _ hb5
     have HO5:=Lib.hid ho5
     have HB5:=Lib.hid hb5
     clear ho5 hon5 hb5)
  | (refine wpList_slice rfl 62 (.tmp 122) (some (.tmp 123)) none rfl (.slice at0 N ct0) y2 (some (.int .i64 ((q:Int)+1))) none rfl rfl rfl (HY2.out _) ?_)
  | (at_builtin;refine wpList_append_onto rfl (.tmp 118) (.tmp 124) _ rfl w3.heap.size 35 i0 _ 14 128 Tryz.underlying62 hi0 hz0 hz1 hz2 rfl (by omega) v5 (q+1) _ rfl HO5.out y2 (N - (q+1)) _ rfl (HS2.out _ HB5.out) (fun u hu=>rcl_one _ u (List.mem_of_mem_drop hu)) (by simp only [maxLen];omega) (by omega) (by have:=HB5.out.size;omega) ?_
     intro v6 w6 ho6 hon6
     obtain ⟨L6,hL6⟩:∃ L,L=q+1+(N - (q+1)):=⟨_,rfl⟩
     rw [← hL6] at ho6
     have HL6:=Lib.hid hL6
     clear hL6
     obtain ⟨a6,c6,rfl,_⟩:=own_form ho6
     have hb6:But (fun _=>False) w3 w6:=HB5.out.trans hon6.but (fun i hi e=>by have:=(HO5.out.lt i e.symm).1;omega)
     have k8:=HC8.out _ hb6
     have f8:=HF8.out _ hb6
     have hrw:w6.ownsRow w3.heap.size 35 14 (.slice a6 L6 c6) (Rgt.put (tokOf r) B.toks).length (rcl ((Rgt.put (tokOf r) B.toks).map (tokR B.id B.gen))):=by
      have h1:=ho6
      have h2:=HPL.out
      simp only [if_true,if_false,Bool.false_eq_true,Nat.add_zero,reduceIte] at h2
      rw [← h2,List.map_append,List.map_append,List.map_take,List.map_drop,rcl_append,rcl_append]
      rw [show (rcl (B.toks.map (tokR B.id B.gen))).take (q * 14)=rcl ((B.toks.map (tokR B.id B.gen)).take q) from flat_take rcs_length _ q,show (rcl (B.toks.map (tokR B.id B.gen))).drop ((q+1) * 14)=rcl ((B.toks.map (tokR B.id B.gen)).drop (q+1)) from flat_drop rcs_length _ _] at h1
      rw [show rcl ([tokOf r].map (tokR B.id B.gen))=rcs r from by
       show rcs (tokR B.id B.gen (tokOf r))++[]=_
       rw [List.append_nil,← HFORM.out]]
      rw [show (B.toks.take q++[tokOf r]++B.toks.drop (q+1)).length=L6 from by
       rw [List.length_append,List.length_append,List.length_take,List.length_drop,← HNN.out,HL6.out]
       simp
       omega]
      exact h1
     have HE:=Lib.hid ((HM3.out.new hb6).sett hrw)
     have HXE:=Lib.hid ((HX3.out.but hb6 (fun h=>h)).but HE.out.2 HNR.out.1)
     have HBE6:=Lib.hid (((HB3.out.trans hb6 (fun _ _ h=>h)).mono (fun _ _ h=>h.elim)).trans' HE.out.2)
     clear ho6 hon6 hb6 hrw
     refine Hid.out ?_))
 refine Lib.hid ?_
 have c7:(w6.setCell ⟨rp,8,none⟩ (.slice a6 L6 c6)).cell? ⟨b4,7,none⟩=some (.int .u32 (n:Int)):=by rw [HSN.out];exact HXE.out.cell 7
 have k6:(w6.setCell ⟨rp,8,none⟩ (.slice a6 L6 c6)).cell? ⟨rp,6,none⟩=some (.int .u32 (cs:Int)):=by rw [HSC.out];exact HE.out.1.blk.cell 6
 have f6:(w6.setCell ⟨rp,8,none⟩ (.slice a6 L6 c6)).frozen? ⟨rp,6,none⟩=false:=HE.out.1.blk.frozen 6
 rcases HCS.out with ⟨hti,hw1⟩|⟨hti,hnv⟩
 rotate_left
 subst hnv
 all_goals
  rcases HCG.out with ⟨hgi,hgt⟩|⟨hgi,hgt⟩
 all_goals
  have HTI:=Lib.hid hti
  have HGI:=Lib.hid hgi
  have HGT:=Lib.hid hgt
  clear hti hgi hgt
  repeat (first|rw [HTI.out]|rw [@decide_eq_true _ _ HGT.out]|rw [@decide_eq_false _ _ HGT.out]|go_values|go_skip|go_guarded|go_step|go_upon)
  clear HTI HGI HCS HCG
  try clear hw1
 have hs1:b32 B.serial r.serial=n:=by rw [HSB.out];have:=HGT.out;omega
 have HT6:=Lib.hid (HE.out.1.set_ 6 (.int .u32 (n:Int)) (B':={ B with toks:=Rgt.put (tokOf r) B.toks,serial:=n }) rfl rfl rfl rfl)
 have HMz:=Lib.hid (show RM ((w6.setCell ⟨rp,8,none⟩ (.slice a6 L6 c6)).setCell ⟨rp,6,none⟩ (.int .u32 (n:Int))) rp kv (.slice a6 L6 c6) { B with toks:=Rgt.put (tokOf r) B.toks,serial:=b32 B.serial r.serial } Ks from by rw [hs1];exact HT6.out.1)
 have HXz:=Lib.hid (HXE.out.but HT6.out.2 HNR.out.1)
 have HBz:=Lib.hid (HBE6.out.trans' HT6.out.2)
 clear hs1 HT6 c7 k6 f6
 generalize (w6.setCell ⟨rp,8,none⟩ (.slice a6 L6 c6)).setCell ⟨rp,6,none⟩ (.int .u32 (n:Int))=wz at HMz HXz HBz ⊢
 rotate_left
 have hs1:b32 B.serial r.serial=B.serial:=by rw [HSB.out,← HSC.out];have:=HGT.out;omega
 have HMz:=Lib.hid (show RM (w6.setCell ⟨rp,8,none⟩ (.slice a6 L6 c6)) rp kv (.slice a6 L6 c6) { B with toks:=Rgt.put (tokOf r) B.toks,serial:=b32 B.serial r.serial } Ks from by rw [hs1];exact HE.out.1)
 have HXz:=Lib.hid HXE.out
 have HBz:=Lib.hid HBE6.out
 clear hs1 c7 k6 f6
 generalize w6.setCell ⟨rp,8,none⟩ (.slice a6 L6 c6)=wz at HMz HXz HBz ⊢
 rotate_left
 have hs1:b32 B.serial r.serial=vs:=by rw [HSB.out];have:=HGT.out;omega
 have HT6:=Lib.hid (HE.out.1.set_ 6 (.int .u32 (vs:Int)) (B':={ B with toks:=Rgt.put (tokOf r) B.toks,serial:=vs }) rfl rfl rfl rfl)
 have HMz:=Lib.hid (show RM ((w6.setCell ⟨rp,8,none⟩ (.slice a6 L6 c6)).setCell ⟨rp,6,none⟩ (.int .u32 (vs:Int))) rp kv (.slice a6 L6 c6) { B with toks:=Rgt.put (tokOf r) B.toks,serial:=b32 B.serial r.serial } Ks from by rw [hs1];exact HT6.out.1)
 have HXz:=Lib.hid (HXE.out.but HT6.out.2 HNR.out.1)
 have HBz:=Lib.hid (HBE6.out.trans' HT6.out.2)
 clear hs1 HT6 c7 k6 f6
 generalize (w6.setCell ⟨rp,8,none⟩ (.slice a6 L6 c6)).setCell ⟨rp,6,none⟩ (.int .u32 (vs:Int))=wz at HMz HXz HBz ⊢
 rotate_left
 have hs1:b32 B.serial r.serial=B.serial:=by rw [HSB.out,← HSC.out];have:=HGT.out;omega
 have HMz:=Lib.hid (show RM (w6.setCell ⟨rp,8,none⟩ (.slice a6 L6 c6)) rp kv (.slice a6 L6 c6) { B with toks:=Rgt.put (tokOf r) B.toks,serial:=b32 B.serial r.serial } Ks from by rw [hs1];exact HE.out.1)
 have HXz:=Lib.hid HXE.out
 have HBz:=Lib.hid HBE6.out
 clear hs1 c7 k6 f6
 generalize w6.setCell ⟨rp,8,none⟩ (.slice a6 L6 c6)=wz at HMz HXz HBz ⊢
 rotate_left
 all_goals
  obtain ⟨c,hc⟩:∃ c,c=Rec.costOf r:=⟨_,rfl⟩
  have HCC:=Lib.hid hc
  have HCB:=Lib.hid (show 14≤c∧c≤1098 from by rw [hc];exact HCO.out)
  clear hc
  obtain ⟨z,hz⟩:∃ z,z=B.charged:=⟨_,rfl⟩
  have HZZ:=Lib.hid hz
  have HZB:=Lib.hid (show 0≤z∧z≤1000000000∧14≤c∧c≤1098 from ⟨by rw [hz];exact HO.out.charged.1,by rw [hz];exact HO.out.charged.2,HCB.out.1,HCB.out.2⟩)
  clear hz
  obtain ⟨Bch,hBch⟩:∃ b:Bk,b={ B with serial:=b32 B.serial r.serial,toks:=Rgt.put (tokOf r) B.toks,charged:=z+c }:=⟨_,rfl⟩
  have HBC:=Lib.hid (show (rmcells { B with toks:=Rgt.put (tokOf r) B.toks,serial:=b32 B.serial r.serial } kv (.slice a6 L6 c6)).setIfInBounds 9 (.int .i64 (z+c))=rmcells Bch kv (.slice a6 L6 c6)∧Bch.toks={ B with toks:=Rgt.put (tokOf r) B.toks,serial:=b32 B.serial r.serial }.toks∧Bch.id={ B with toks:=Rgt.put (tokOf r) B.toks,serial:=b32 B.serial r.serial }.id∧Bch.gen={ B with toks:=Rgt.put (tokOf r) B.toks,serial:=b32 B.serial r.serial }.gen from by rw [hBch];exact ⟨rfl,rfl,rfl,rfl⟩)
  have HEND:=Lib.hid (show bapp B r=Bch∧kapp B r p Ks=Ks from by
   have ht:told B r=true:=by unfold told;rw [decide_eq_true HOW.out,HK.out];rw [decide_eq_true HPE.out];rfl
   unfold bapp kapp kmade made
   rw [ht,HK.out,hBch,HZZ.out,HCC.out]
   exact ⟨rfl,rfl⟩)
  clear hBch
  have HCZ:=Lib.hid (fun V (hV:But (fun _=>False) wz V)=>And.intro (show V.cell? ⟨rp,9,none⟩=some (.int .i64 z) from by
   have:=(HMz.out.new hV).blk.cell 9
   rw [HZZ.out]
   exact this) (show V.frozen? ⟨rp,9,none⟩=false from (HMz.out.new hV).blk.frozen 9))
  have HRZ:=Lib.hid (fun V (hV:But (fun _=>False) wz V)=>show V.rangeAt b4 0 (rcs r) from blk_range0 (A:=[]) (B:=rcs r) (HXz.out.but hV (fun h=>h)))
  have ww:IntKind.i64.wrap (z+c)=z+c:=IntWalk.i64_in _ (by have:=HZB.out;omega)
  go_wp2_with fail
  refine Late.region_goes (fun V=>But (fun _=>False) wz V) (fun j=>j == 10) (by kernel_rfl) ?_ (fun hH=>?_)
  ·exact (But.refl _ wz).drew
  refine Late.tk 0 ?_ ?_ hH ?_;rotate_left 2
  refine Late.tk 1 ?_ ?_ hH ?_;rotate_left 2
  refine Late.tk 2 ?_ ?_ hH ?_;rotate_left 2
  refine Late.tk 3 ?_ ?_ hH ?_;rotate_left 2
  refine Late.tk 4 ?_ ?_ hH ?_;rotate_left 2
  rotate_left
  any_goals (intro wy hSw;(try dsimp only at hSw);have k0:=(HCZ.out wy hSw).1;go_simp;try (with_reducible rfl))
  try simp only [Act.put,List.setIfInBounds_toArray,List.set_cons_zero,List.set_cons_succ]
  refine Late.Goes.takeT (i:=5) (v:=_) (by simp only [List.getElem?_toArray,List.getElem?_cons_succ,List.getElem?_cons_zero];rfl) (by kernel_rfl) (by kernel_rfl) (by kernel_rfl) (by kernel_rfl) (by kernel_rfl) (by exact fun _ _ _ h=>h) (yields_rec (by rfl) _ rfl b4 0 rfl r (fun V hV=>HRZ.out V hV)) hH ?_
  try simp only [Act.put,List.setIfInBounds_toArray,List.set_cons_zero,List.set_cons_succ]
  have HVz:=Lib.hid hH
  refine Late.Goes.one (i:=6) (by kernel_rfl) (by simp only [List.getElem?_toArray,List.getElem?_cons_succ,List.getElem?_cons_zero];rfl) (fun K hK=>?_)
  clear hH
  go_simp
  go_at_call 40
  refine (Rec.refCost_any r HOW.out.1 HIS.out _).mono ?_
  rintro e wy ⟨rfl,hbe⟩
  rw [← HCC.out]
  have HVy:=Lib.hid (HVz.out.trans (But.of_new hbe:But (fun _=>False) _ _) (fun _ _ h=>h))
  clear hbe
  refine hK.out _ _ ?_ (fun hH=>?_)
  ·exact fun _=>HVy.out
  clear hK K
  have hH:=hH rfl
  try simp only [Act.put,List.setIfInBounds_toArray,List.set_cons_zero,List.set_cons_succ]
  refine Late.tk 7 ?_ ?_ hH ?_;rotate_left 2
  refine Late.tk 8 ?_ ?_ hH ?_;rotate_left 2
  refine Late.tk 9 ?_ ?_ hH ?_;rotate_left 2
  rotate_left
  any_goals (intro wy hSw;(try dsimp only at hSw);have k0:=(HCZ.out wy hSw).1;go_simp;try (with_reducible rfl))
  try simp only [Act.put,List.setIfInBounds_toArray,List.set_cons_zero,List.set_cons_succ]
  have k9:=(HCZ.out _ HVy.out).1
  have f9:=(HCZ.out _ HVy.out).2
  refine Late.Goes.one (i:=10) (by kernel_rfl) (by simp only [List.getElem?_toArray,List.getElem?_cons_succ,List.getElem?_cons_zero];rfl) (fun K hK=>?_)
  clear hH
  go_simp
  clear k9 f9
  have HF:=Lib.hid ((HMz.out.new HVy.out).set_ 9 (.int .i64 (z+c)) (B':=Bch) HBC.out.1 HBC.out.2.1 HBC.out.2.2.1 HBC.out.2.2.2)
  generalize wy.setCell ⟨rp,9,none⟩ (.int .i64 (z+c))=wx at HF ⊢
  refine hK.out _ _ ?_ (fun _=>?_)
  ·exact fun h=>by cases h
  clear hK K
  try simp only [Act.put,List.setIfInBounds_toArray,List.set_cons_zero,List.set_cons_succ]
  refine Late.Goes.done (by kernel_rfl) ?_ _
  have HEB:=Lib.hid ((HBz.out.trans' (HVy.out.mono (fun _ _ h=>h.elim))).trans' HF.out.2)
  go_wp2_with fail
  go_ret
  rw [HEND.out.1,HEND.out.2]
  exact ⟨rfl,⟨_,_,HF.out.1⟩,HEB.out⟩
theorem rap_rev (h:RM w rp kv tv B Ks) (o:ROk B Ks) (r:Rcd) (hr:Rec.Is r) (p:Spt) (hp:SpOk p) (hown:Own B r) (hk:r.kind=6) :
  Calls Tryz.prog 10 #[.pointer (some ⟨rp,0,none⟩),Rec.rv r,spV p] w fun e w'=>e = .returned (.bool true)∧RSays w rp (bapp B r) (kapp B r p Ks) w':=by
 have n1:(r.bucket != B.id)=false:=by simpa using hown.2.1
 have n2:((r.gen:Int) != (B.gen:Int))=false:=by have:=hown.2.2;simp;omega
 have HOW:=Lib.hid hown
 have HK:=Lib.hid hk
 clear hk
 have HCO:=Lib.hid (cost_le hown.1)
 clear hown
 have HX:=Lib.hid (Blk.two w (Rec.cells r) (spB p) 35 37)
 have HB0:=Lib.hid (((But.refl (fun _=>False) w).alloc (.cells (Rec.cells r) 35)).alloc (.cells (spB p) 37))
 have HH:=Lib.hid h
 have HO:=Lib.hid o
 have HIS:=Lib.hid hr
 have hrlt:=h.lt
 clear h o hr hp
 change Calls _ _ #[.pointer (some ⟨rp,0,none⟩),.agg #[.int .i64 r.kind,.int .i64 r.bucket,.int .u32 (r.gen:Int),.int .i64 r.keys,.int .i64 r.bytes,.int .i64 r.budget,.int .u64 (r.seq:Int),.int .u32 (r.serial:Int),.int .i64 r.rights,.int .u64 (r.secret:Int),.string r.key,.string r.val,.int .u64 (r.version:Int),.int .u64 (r.expiry:Int)],.agg #[.int .i64 p.1,.int .i64 p.2.1,.int .i64 p.2.2]] w _
 go_enter Tryz.func10,Tryz.ntmps10
 go_wp2_with (refine wpList_load_row rfl 35 _ rfl w.heap.size rfl 35 _ (0,0) _ HX.out.1 Tryz.underlying35 rfl Rec.rec_size ?_)
 change Calls _ _ _ ((w.alloc (.cells (Rec.cells r) 35)).alloc (.cells (spB p) 37)) _
 obtain ⟨b4,hb4⟩:∃ b,b=w.heap.size:=⟨_,rfl⟩
 rw [← hb4] at HX
 rw [← hb4]
 generalize (w.alloc (.cells (Rec.cells r) 35)).alloc (.cells (spB p) 37)=W at HX HB0 ⊢
 have HNR:=Lib.hid (show b4≠rp∧b4+1≠rp from by omega)
 clear hb4 hrlt
 refine (Rec.refMay_any r _).mono ?_
 rintro e w1 ⟨rfl,hbe⟩
 have hv1:But (fun _=>False) W w1:=But.of_new hbe
 have HX1:=Lib.hid (And.intro (HX.out.1.but hv1 (fun h=>h)) (HX.out.2.but hv1 (fun h=>h)))
 have HB1:=Lib.hid (HB0.out.trans hv1 (fun _ _ h=>h))
 have HM1:=Lib.hid (HH.out.new HB1.out)
 clear hbe hv1 HX HB0
 rw [decide_eq_true HOW.out.1]
 have HC:=Lib.hid (fun V (hV:But (fun _=>False) w1 V)=>(And.intro (show V.cell? ⟨rp,0,none⟩=some (.int .i64 B.id) from (HM1.out.new hV).blk.cell 0) (And.intro (show V.cell? ⟨rp,1,none⟩=some (.int .u32 (B.gen:Int)) from (HM1.out.new hV).blk.cell 1) (And.intro (show V.cell? ⟨b4,1,none⟩=some (.int .i64 r.bucket) from (HX1.out.1.but hV (fun h=>h)).cell 1) (show V.cell? ⟨b4,2,none⟩=some (.int .u32 (r.gen:Int)) from (HX1.out.1.but hV (fun h=>h)).cell 2)))))
 go_wp2_with fail
 refine Late.region_goes (fun V=>But (fun _=>False) w1 V) (fun _=>false) (by kernel_rfl) ?_ (fun hH=>?_)
 ·exact (But.refl _ w1).drew
 refine Late.tk 0 ?_ ?_ hH ?_ (hw:=by kernel_rfl);rotate_left;focus (intro wy hSw;(try dsimp only at hSw);obtain ⟨k0,k1,k2,k3⟩:=HC.out wy hSw;go_simp;try (with_reducible rfl))
 refine Late.tk 1 ?_ ?_ hH ?_ (hw:=by kernel_rfl);rotate_left;focus (intro wy hSw;(try dsimp only at hSw);obtain ⟨k0,k1,k2,k3⟩:=HC.out wy hSw;go_simp;try (with_reducible rfl))
 refine Late.tk 2 ?_ ?_ hH ?_ (hw:=by kernel_rfl);rotate_left;focus (intro wy hSw;(try dsimp only at hSw);obtain ⟨k0,k1,k2,k3⟩:=HC.out wy hSw;go_simp;try (with_reducible rfl))
 refine Late.tk 3 ?_ ?_ hH ?_ (hw:=by kernel_rfl);rotate_left;focus (intro wy hSw;(try dsimp only at hSw);obtain ⟨k0,k1,k2,k3⟩:=HC.out wy hSw;go_simp;try (with_reducible rfl))
 refine Late.tk 4 ?_ ?_ hH ?_ (hw:=by kernel_rfl);rotate_left;focus (intro wy hSw;(try dsimp only at hSw);obtain ⟨k0,k1,k2,k3⟩:=HC.out wy hSw;go_simp;try (with_reducible rfl))
 refine Late.tk 5 ?_ ?_ hH ?_ (hw:=by kernel_rfl);rotate_left;focus (intro wy hSw;(try dsimp only at hSw);obtain ⟨k0,k1,k2,k3⟩:=HC.out wy hSw;go_simp;try (with_reducible rfl))
 refine Late.tk 6 ?_ ?_ hH ?_ (hw:=by kernel_rfl);rotate_left;focus (intro wy hSw;(try dsimp only at hSw);obtain ⟨k0,k1,k2,k3⟩:=HC.out wy hSw;go_simp;try (with_reducible rfl))
 refine Late.tk 7 ?_ ?_ hH ?_ (hw:=by kernel_rfl);rotate_left;focus (intro wy hSw;(try dsimp only at hSw);obtain ⟨k0,k1,k2,k3⟩:=HC.out wy hSw;go_simp;try (with_reducible rfl))
 refine Late.tk 8 ?_ ?_ hH ?_ (hw:=by kernel_rfl);rotate_left;focus (intro wy hSw;(try dsimp only at hSw);obtain ⟨k0,k1,k2,k3⟩:=HC.out wy hSw;go_simp;try (with_reducible rfl))
 refine Late.tk 9 ?_ ?_ hH ?_ (hw:=by kernel_rfl);rotate_left;focus (intro wy hSw;(try dsimp only at hSw);obtain ⟨k0,k1,k2,k3⟩:=HC.out wy hSw;go_simp;try (with_reducible rfl))
 refine Late.tk 10 ?_ ?_ hH ?_ (hw:=by kernel_rfl);rotate_left;focus (intro wy hSw;(try dsimp only at hSw);obtain ⟨k0,k1,k2,k3⟩:=HC.out wy hSw;go_simp;try (with_reducible rfl))
 refine Late.tk 11 ?_ ?_ hH ?_ (hw:=by kernel_rfl);rotate_left;focus (intro wy hSw;(try dsimp only at hSw);obtain ⟨k0,k1,k2,k3⟩:=HC.out wy hSw;go_simp;try (with_reducible rfl))
 refine Late.tk 12 ?_ ?_ hH ?_ (hw:=by kernel_rfl);rotate_left;focus (intro wy hSw;(try dsimp only at hSw);obtain ⟨k0,k1,k2,k3⟩:=HC.out wy hSw;go_simp;try (with_reducible rfl))
 refine Late.tk 13 ?_ ?_ hH ?_ (hw:=by kernel_rfl);rotate_left;focus (intro wy hSw;(try dsimp only at hSw);obtain ⟨k0,k1,k2,k3⟩:=HC.out wy hSw;go_simp;try (with_reducible rfl))
 refine Late.tk 14 ?_ ?_ hH ?_ (hw:=by kernel_rfl);rotate_left;focus (intro wy hSw;(try dsimp only at hSw);obtain ⟨k0,k1,k2,k3⟩:=HC.out wy hSw;go_simp;try (with_reducible rfl))
 refine Late.tk 15 ?_ ?_ hH ?_ (hw:=by kernel_rfl);rotate_left;focus (intro wy hSw;(try dsimp only at hSw);obtain ⟨k0,k1,k2,k3⟩:=HC.out wy hSw;go_simp;try (with_reducible rfl))
 refine Late.tk 16 ?_ ?_ hH ?_ (hw:=by kernel_rfl);rotate_left;focus (intro wy hSw;(try dsimp only at hSw);obtain ⟨k0,k1,k2,k3⟩:=HC.out wy hSw;go_simp;try (with_reducible rfl))
 refine Late.tk 17 ?_ ?_ hH ?_ (hw:=by kernel_rfl);rotate_left;focus (intro wy hSw;(try dsimp only at hSw);obtain ⟨k0,k1,k2,k3⟩:=HC.out wy hSw;go_simp;try (with_reducible rfl))
 refine Late.tk 18 ?_ ?_ hH ?_ (hw:=by kernel_rfl);rotate_left;focus (intro wy hSw;(try dsimp only at hSw);obtain ⟨k0,k1,k2,k3⟩:=HC.out wy hSw;go_simp;try (with_reducible rfl))
 refine Late.tk 19 ?_ ?_ hH ?_ (hw:=by kernel_rfl);rotate_left;focus (intro wy hSw;(try dsimp only at hSw);obtain ⟨k0,k1,k2,k3⟩:=HC.out wy hSw;go_simp;try (with_reducible rfl))
 try simp only [Act.put,List.setIfInBounds_toArray,List.set_cons_zero,List.set_cons_succ]
 refine Late.Goes.done (by kernel_rfl) ?_ _
 have HV:=Lib.hid hH
 clear hH n1 n2
 have HX2:=Lib.hid (And.intro (HX1.out.1.but HV.out (fun h=>h)) (HX1.out.2.but HV.out (fun h=>h)))
 have HM2:=Lib.hid (HM1.out.new HV.out)
 have HB2:=Lib.hid (HB1.out.trans HV.out (fun _ _ h=>h))
 generalize w1.drew=w2 at HX2 HM2 HB2 ⊢
 have c0:w2.cell? ⟨b4,0,none⟩=some (.int .i64 6):=by
  have h:w2.cell? ⟨b4,0,none⟩=some (.int .i64 r.kind):=HX2.out.1.cell 0
  rw [HK.out] at h
  exact h
 clear HX1 HM1 HC HV
 have hgd:=HO.out.toks
 have c7:w2.cell? ⟨b4,7,none⟩=some (.int .u32 (r.serial:Int)):=HX2.out.1.cell 7
 have HTK:=Lib.hid (token_any HM2.out hgd.ris (by have:=hgd.len;omega) r.serial)
 have hq:=Rgt.plc_le r.serial B.toks
 have hlen100:=hgd.len
 have HPL:=Lib.hid (show Rgt.del r.serial B.toks=if (Rgt.look r.serial B.toks).isSome then B.toks.take (Rgt.plc r.serial B.toks)++B.toks.drop (Rgt.plc r.serial B.toks+1) else B.toks from by
  cases hl:(Rgt.look r.serial B.toks).isSome with
  | true=>rw [if_pos rfl];exact (Rgt.del_plc hgd.ris hl).symm
  | false=>rw [if_neg (by decide)];exact Rgt.del_none (by simpa using hl))
 have HQN:=Lib.hid (show (Rgt.look r.serial B.toks).isSome=true→Rgt.plc r.serial B.toks < B.toks.length from fun hb=>((Rgt.plc_look hgd.ris).1 hb).1)
 obtain ⟨q,hqe⟩:∃ q,q=Rgt.plc r.serial B.toks:=⟨_,rfl⟩
 rw [← hqe] at HTK hq HPL HQN
 clear hqe
 obtain ⟨b,hbe⟩:∃ b,b=(Rgt.look r.serial B.toks).isSome:=⟨_,rfl⟩
 rw [← hbe] at HTK HPL HQN
 have HBE:=Lib.hid hbe
 clear hbe hgd
 go_wp2_with fail
 refine HTK.out.mono ?_
 rintro e w3 ⟨rfl,hb3⟩
 have HX3:=Lib.hid (HX2.out.1.but hb3 (fun h=>h))
 have HM3:=Lib.hid (HM2.out.new hb3)
 have HB3:=Lib.hid (HB2.out.trans hb3 (fun _ _ h=>h))
 clear hb3 c0 c7
 obtain ⟨N,hN⟩:∃ N,N=B.toks.length:=⟨_,rfl⟩
 have HNN:=Lib.hid hN
 have hrow:=HM3.out.toks
 rw [← hN] at hrow hq hlen100
 obtain ⟨at0,ct0,htv,_⟩:=own_form hrow
 have HTV:=Lib.hid htv
 clear hN
 have HC7:=Lib.hid (fun V (hV:But (fun _=>False) w3 V)=>show V.cell? ⟨rp,8,none⟩=some tv from (HM3.out.new hV).blk.cell 8)
 have HF7:=Lib.hid (fun V (hV:But (fun _=>False) w3 V)=>show V.frozen? ⟨rp,8,none⟩=false from (HM3.out.new hV).blk.frozen 8)
 subst htv
 cases b
 case' false =>
  go_wp2_with fail
  obtain ⟨tz,HMz⟩:∃ tz,Hid (RM w3 rp kv tz { B with toks:=Rgt.del r.serial B.toks } Ks):=⟨_,Lib.hid (by
   rw [HPL.out]
   exact HM3.out)⟩
  have HXz:=Lib.hid HX3.out
  have HBz:=Lib.hid (show But (fun k=>k=rp) w w3 from HB3.out.mono (fun _ _ h=>h.elim))
  clear HC7 HF7
  generalize w3=wz at HMz HXz HBz ⊢
 case' true =>
  have HBA:=Lib.hid HB3.out
  have hqn:q < N:=by have:=HQN.out rfl;rw [HNN.out];exact this
  obtain ⟨i0,hi0,hz⟩:=Option.map_eq_some_iff.1 rzero
  simp only [Prod.mk.injEq] at hz
  obtain ⟨hz0,hz1,hz2⟩:=hz
  obtain ⟨y1,hy1,hs1⟩:=own_head hrow Tryz.underlying62 size_rec (i:=q) (by omega)
  obtain ⟨y2,hy2,hs2⟩:=own_tail hrow Tryz.underlying62 size_rec (i:=q+1) (by omega)
  have HS1:=Lib.hid hs1
  have HS2:=Lib.hid hs2
  have HY1:=Lib.hid hy1
  have HY2:=Lib.hid (show ∀ V,(Instr.sliceAt 62 (.slice at0 N ct0) (some (.int .i64 ((q:Int)+1))) none none).run Tryz.prog V = .ok y2 V from hy2)
  have q1:IntKind.i64.wrap ((q:Int)+1)=(q:Int)+1:=IntWalk.i64_in _ (by omega)
  clear hs1 hs2 hy1 hy2
  go_wp2_with fail
  refine Late.region_goes (fun V=>But (fun _=>False) w3 V) (fun j=>j == 19) (by kernel_rfl) ?_ (fun hH=>?_)
  ·exact (But.refl _ w3).drew
  refine Late.tk 0 ?_ ?_ hH ?_ (hw:=by kernel_rfl);rotate_left;focus (intro wy hSw;(try dsimp only at hSw);have k0:=HC7.out wy hSw;go_simp;try (with_reducible rfl))
  refine Late.tk 2 ?_ ?_ hH ?_ (hw:=by kernel_rfl);rotate_left;focus (intro wy hSw;(try dsimp only at hSw);have k0:=HC7.out wy hSw;go_simp;try (with_reducible rfl))
  refine Late.tk 3 ?_ ?_ hH ?_ (hw:=by kernel_rfl);rotate_left;focus (intro wy hSw;(try dsimp only at hSw);have k0:=HC7.out wy hSw;go_simp;try (with_reducible rfl))
  refine Late.tk 4 ?_ ?_ hH ?_ (hw:=by kernel_rfl);rotate_left;focus (intro wy hSw;(try dsimp only at hSw);have k0:=HC7.out wy hSw;go_simp;try (with_reducible rfl))
  refine Late.tk 5 ?_ ?_ hH ?_ (hw:=by kernel_rfl);rotate_left;focus (intro wy hSw;(try dsimp only at hSw);have k0:=HC7.out wy hSw;go_simp;try (with_reducible rfl))
  refine Late.tk 6 ?_ ?_ hH ?_ (hw:=by kernel_rfl);rotate_left;focus (intro wy hSw;(try dsimp only at hSw);have k0:=HC7.out wy hSw;go_simp;try (with_reducible rfl))
  try simp only [Act.put,List.setIfInBounds_toArray,List.set_cons_zero,List.set_cons_succ]
  refine Late.Goes.takeT (i:=7) (v:=_) (by simp only [List.getElem?_toArray,List.getElem?_cons_succ,List.getElem?_cons_zero];rfl) (by kernel_rfl) (by kernel_rfl) (by kernel_rfl) (by kernel_rfl) (by kernel_rfl) (by exact fun _ _ _ h=>h) (yields_slice (by rfl) 62 _ _ _ rfl (.slice at0 N ct0) y1 none (some (.int .i64 (q:Int))) rfl rfl rfl (fun V=>HY1.out V)) hH ?_
  try simp only [Act.put,List.setIfInBounds_toArray,List.set_cons_zero,List.set_cons_succ]
  refine Late.tk 9 ?_ ?_ hH ?_ (hw:=by kernel_rfl);rotate_left;focus (intro wy hSw;(try dsimp only at hSw);have k0:=HC7.out wy hSw;go_simp;try (with_reducible rfl))
  refine Late.tk 10 ?_ ?_ hH ?_ (hw:=by kernel_rfl);rotate_left;focus (intro wy hSw;(try dsimp only at hSw);have k0:=HC7.out wy hSw;go_simp;try (with_reducible rfl))
  refine Late.tk 11 ?_ ?_ hH ?_ (hw:=by kernel_rfl);rotate_left;focus (intro wy hSw;(try dsimp only at hSw);have k0:=HC7.out wy hSw;go_simp;try (with_reducible rfl))
  refine Late.tk 12 ?_ ?_ hH ?_ (hw:=by kernel_rfl);rotate_left;focus (intro wy hSw;(try dsimp only at hSw);have k0:=HC7.out wy hSw;go_simp;try (with_reducible rfl))
  refine Late.tk 13 ?_ ?_ hH ?_ (hw:=by kernel_rfl);rotate_left;focus (intro wy hSw;(try dsimp only at hSw);have k0:=HC7.out wy hSw;go_simp;try (with_reducible rfl))
  refine Late.tk 14 ?_ ?_ hH ?_ (hw:=by kernel_rfl);rotate_left;focus (intro wy hSw;(try dsimp only at hSw);have k0:=HC7.out wy hSw;go_simp;try (with_reducible rfl))
  try simp only [Act.put,List.setIfInBounds_toArray,List.set_cons_zero,List.set_cons_succ]
  refine Late.Goes.takeT (i:=15) (v:=_) (by simp only [List.getElem?_toArray,List.getElem?_cons_succ,List.getElem?_cons_zero];rfl) (by kernel_rfl) (by kernel_rfl) (by kernel_rfl) (by kernel_rfl) (by kernel_rfl) (by exact fun _ _ _ h=>h) (yields_slice (by rfl) 62 _ _ _ rfl (.slice at0 N ct0) y2 (some (.int .i64 ((q:Int)+1))) none rfl rfl rfl (fun V=>HY2.out V)) hH ?_
  try simp only [Act.put,List.setIfInBounds_toArray,List.set_cons_zero,List.set_cons_succ]
  clear q1
  have HV0:=Lib.hid hH
  refine Late.Goes.one (i:=1) (by kernel_rfl) (by simp only [List.getElem?_toArray,List.getElem?_cons_succ,List.getElem?_cons_zero];rfl) (fun K hK=>?_)
  clear hH
  go_simp
  have HO2:=Lib.hid (show (w3.drew.alloc (.cells #[] 35)).ownsRow w3.heap.size 35 14 (.slice (some ⟨w3.heap.size,0,none⟩) 0 0) 0 [] from own_new w3.drew 35 14 (by omega))
  have HB2:=Lib.hid (HV0.out.alloc (.cells #[] 35))
  change K (_:Act) (w3.drew.alloc (.cells #[] 35))
  generalize w3.drew.alloc (.cells #[] 35)=w2a at HO2 HB2 ⊢
  obtain ⟨z0,hz0e⟩:∃ z,z=w3.heap.size:=⟨_,rfl⟩
  rw [← hz0e] at HO2 ⊢
  have HWS:=Lib.hid hz0e
  clear hz0e
  refine hK.out _ _ ?_ (fun hH=>?_)
  ·exact fun _=>HB2.out
  clear hK K
  have hH:=hH rfl
  try simp only [Act.put,List.setIfInBounds_toArray,List.set_cons_zero,List.set_cons_succ]
  refine Late.Goes.one (i:=8) (by kernel_rfl) (by simp only [List.getElem?_toArray,List.getElem?_cons_succ,List.getElem?_cons_zero];rfl) (fun K hK=>?_)
  clear hH
  refine step_append_onto rfl (.tmp 155) (.tmp 161) _ rfl z0 35 i0 _ 14 128 Tryz.underlying62 hi0 hz0 hz1 hz2 rfl (by omega) (.slice (some ⟨z0,0,none⟩) 0 0) 0 [] rfl HO2.out y1 q _ rfl (HS1.out _ HB2.out) (fun u hu=>rcl_one _ u (List.mem_of_mem_take hu)) (by simp only [maxLen];omega) (by omega) (by have:=HB2.out.size;have:=HWS.out;omega) ?_
  intro v3 w3a ho3 hon3
  rw [List.nil_append,Nat.zero_add] at ho3
  have HO3:=Lib.hid ho3
  have HB3:=Lib.hid (HB2.out.trans hon3.but (fun i hi e=>by
   have e2:i=z0:=Option.some.inj e
   have:=HWS.out
   omega))
  clear ho3 hon3
  refine hK.out _ _ ?_ (fun hH=>?_)
  ·exact fun _=>HB3.out
  clear hK K
  have hH:=hH rfl
  try simp only [Act.put,List.setIfInBounds_toArray,List.set_cons_zero,List.set_cons_succ]
  refine Late.Goes.one (i:=16) (by kernel_rfl) (by simp only [List.getElem?_toArray,List.getElem?_cons_succ,List.getElem?_cons_zero];rfl) (fun K hK=>?_)
  clear hH
  refine step_append_onto rfl (.tmp 162) (.tmp 169) _ rfl z0 35 i0 _ 14 128 Tryz.underlying62 hi0 hz0 hz1 hz2 rfl (by omega) v3 q _ rfl HO3.out y2 (N - (q+1)) _ rfl (HS2.out _ HB3.out) (fun u hu=>rcl_one _ u (List.mem_of_mem_drop hu)) (by simp only [maxLen];omega) (by omega) (by have:=HB3.out.size;have:=HWS.out;omega) ?_
  intro v4 w4a ho4 hon4
  obtain ⟨L4,hL4⟩:∃ L,L=q+(N - (q+1)):=⟨_,rfl⟩
  rw [← hL4] at ho4
  have HL4:=Lib.hid hL4
  clear hL4
  obtain ⟨a4,c4,rfl,_⟩:=own_form ho4
  have HO4:=Lib.hid ho4
  have HB4:=Lib.hid (HB3.out.trans hon4.but (fun i hi e=>by
   have:=(HO3.out.lt i e.symm).1
   have:=HWS.out
   omega))
  clear ho4 hon4
  refine hK.out _ _ ?_ (fun hH=>?_)
  ·exact fun _=>HB4.out
  clear hK K
  have hH:=hH rfl
  try simp only [Act.put,List.setIfInBounds_toArray,List.set_cons_zero,List.set_cons_succ]
  refine Late.tk 17 ?_ ?_ hH ?_ (hw:=by kernel_rfl);rotate_left;focus (intro wy hSw;(try dsimp only at hSw);have k0:=HC7.out wy hSw;go_simp;try (with_reducible rfl))
  refine Late.tk 18 ?_ ?_ hH ?_ (hw:=by kernel_rfl);rotate_left;focus (intro wy hSw;(try dsimp only at hSw);have k0:=HC7.out wy hSw;go_simp;try (with_reducible rfl))
  try simp only [Act.put,List.setIfInBounds_toArray,List.set_cons_zero,List.set_cons_succ]
  have k9:=HC7.out _ HB4.out
  have f9:=HF7.out _ HB4.out
  refine Late.Goes.one (i:=19) (by kernel_rfl) (by simp only [List.getElem?_toArray,List.getElem?_cons_succ,List.getElem?_cons_zero];rfl) (fun K hK=>?_)
  clear hH
  go_simp
  clear k9 f9
  have hrw:w4a.ownsRow z0 35 14 (.slice a4 L4 c4) (Rgt.del r.serial B.toks).length (rcl ((Rgt.del r.serial B.toks).map (tokR B.id B.gen))):=by
   have h1:=HO4.out
   have h2:=HPL.out
   simp only [reduceIte] at h2
   rw [show (rcl (B.toks.map (tokR B.id B.gen))).take (q * 14)=rcl ((B.toks.map (tokR B.id B.gen)).take q) from flat_take rcs_length _ q,show (rcl (B.toks.map (tokR B.id B.gen))).drop ((q+1) * 14)=rcl ((B.toks.map (tokR B.id B.gen)).drop (q+1)) from flat_drop rcs_length _ (q+1),← rcl_append] at h1
   rw [h2,List.map_append,List.map_take,List.map_drop]
   rw [show (B.toks.take q++B.toks.drop (q+1)).length=L4 from by rw [List.length_append,List.length_take,List.length_drop,← HNN.out,HL4.out];omega]
   exact h1
  have HE:=Lib.hid ((HM3.out.new HB4.out).sett hrw)
  have HXE:=Lib.hid ((HX3.out.but HB4.out (fun h=>h)).but HE.out.2 HNR.out.1)
  clear hrw
  generalize w4a.setCell ⟨rp,8,none⟩ (.slice a4 L4 c4)=w5a at HE HXE ⊢
  refine hK.out _ _ ?_ (fun _=>?_)
  ·exact fun h=>by cases h
  clear hK K
  try simp only [Act.put,List.setIfInBounds_toArray,List.set_cons_zero,List.set_cons_succ]
  refine Late.Goes.done (by kernel_rfl) ?_ _
  go_wp2_with fail
  obtain ⟨tz,HMz⟩:∃ tz,Hid (RM w5a rp kv tz { B with toks:=Rgt.del r.serial B.toks } Ks):=⟨_,Lib.hid HE.out.1⟩
  have HXz:=Lib.hid HXE.out
  have HBz:=Lib.hid (((HBA.out.trans HB4.out (fun _ _ h=>h)).mono (fun _ _ h=>h.elim)).trans' HE.out.2)
  clear HE HXE
  generalize w5a=wz at HMz HXz HBz ⊢
 all_goals
  obtain ⟨c,hc⟩:∃ c,c=Rec.costOf r:=⟨_,rfl⟩
  have HCC:=Lib.hid hc
  have HCB:=Lib.hid (show 14≤c∧c≤1098 from by rw [hc];exact HCO.out)
  clear hc
  obtain ⟨z,hz⟩:∃ z,z=B.charged:=⟨_,rfl⟩
  have HZZ:=Lib.hid hz
  have HZB:=Lib.hid (show 0≤z∧z≤1000000000∧14≤c∧c≤1098 from ⟨by rw [hz];exact HO.out.charged.1,by rw [hz];exact HO.out.charged.2,HCB.out.1,HCB.out.2⟩)
  clear hz
  obtain ⟨Bch,hBch⟩:∃ b:Bk,b={ B with toks:=Rgt.del r.serial B.toks,charged:=z+c }:=⟨_,rfl⟩
  have HBC:=Lib.hid (show (rmcells { B with toks:=Rgt.del r.serial B.toks } kv tz).setIfInBounds 9 (.int .i64 (z+c))=rmcells Bch kv tz∧Bch.toks={ B with toks:=Rgt.del r.serial B.toks }.toks∧Bch.id={ B with toks:=Rgt.del r.serial B.toks }.id∧Bch.gen={ B with toks:=Rgt.del r.serial B.toks }.gen from by rw [hBch];exact ⟨rfl,rfl,rfl,rfl⟩)
  have HEND:=Lib.hid (show bapp B r=Bch∧kapp B r p Ks=Ks from by
   have ht:told B r=true:=by unfold told;rw [decide_eq_true HOW.out,HK.out];rfl
   unfold bapp kapp kmade made
   rw [ht,HK.out,hBch,HZZ.out,HCC.out]
   exact ⟨rfl,rfl⟩)
  clear hBch
  have HCZ:=Lib.hid (fun V (hV:But (fun _=>False) wz V)=>And.intro (show V.cell? ⟨rp,9,none⟩=some (.int .i64 z) from by
   have:=(HMz.out.new hV).blk.cell 9
   rw [HZZ.out]
   exact this) (show V.frozen? ⟨rp,9,none⟩=false from (HMz.out.new hV).blk.frozen 9))
  have HRZ:=Lib.hid (fun V (hV:But (fun _=>False) wz V)=>show V.rangeAt b4 0 (rcs r) from blk_range0 (A:=[]) (B:=rcs r) (HXz.out.but hV (fun h=>h)))
  have ww:IntKind.i64.wrap (z+c)=z+c:=IntWalk.i64_in _ (by have:=HZB.out;omega)
  go_wp2_with fail
  refine Late.region_goes (fun V=>But (fun _=>False) wz V) (fun j=>j == 10) (by kernel_rfl) ?_ (fun hH=>?_)
  ·exact (But.refl _ wz).drew
  refine Late.tk 0 ?_ ?_ hH ?_;rotate_left 2
  refine Late.tk 1 ?_ ?_ hH ?_;rotate_left 2
  refine Late.tk 2 ?_ ?_ hH ?_;rotate_left 2
  refine Late.tk 3 ?_ ?_ hH ?_;rotate_left 2
  refine Late.tk 4 ?_ ?_ hH ?_;rotate_left 2
  rotate_left
  any_goals (intro wy hSw;(try dsimp only at hSw);have k0:=(HCZ.out wy hSw).1;go_simp;try (with_reducible rfl))
  try simp only [Act.put,List.setIfInBounds_toArray,List.set_cons_zero,List.set_cons_succ]
  refine Late.Goes.takeT (i:=5) (v:=_) (by simp only [List.getElem?_toArray,List.getElem?_cons_succ,List.getElem?_cons_zero];rfl) (by kernel_rfl) (by kernel_rfl) (by kernel_rfl) (by kernel_rfl) (by kernel_rfl) (by exact fun _ _ _ h=>h) (yields_rec (by rfl) _ rfl b4 0 rfl r (fun V hV=>HRZ.out V hV)) hH ?_
  try simp only [Act.put,List.setIfInBounds_toArray,List.set_cons_zero,List.set_cons_succ]
  have HVz:=Lib.hid hH
  refine Late.Goes.one (i:=6) (by kernel_rfl) (by simp only [List.getElem?_toArray,List.getElem?_cons_succ,List.getElem?_cons_zero];rfl) (fun K hK=>?_)
  clear hH
  go_simp
  go_at_call 40
  refine (Rec.refCost_any r HOW.out.1 HIS.out _).mono ?_
  rintro e wy ⟨rfl,hbe⟩
  rw [← HCC.out]
  have HVy:=Lib.hid (HVz.out.trans (But.of_new hbe:But (fun _=>False) _ _) (fun _ _ h=>h))
  clear hbe
  refine hK.out _ _ ?_ (fun hH=>?_)
  ·exact fun _=>HVy.out
  clear hK K
  have hH:=hH rfl
  try simp only [Act.put,List.setIfInBounds_toArray,List.set_cons_zero,List.set_cons_succ]
  refine Late.tk 7 ?_ ?_ hH ?_;rotate_left 2
  refine Late.tk 8 ?_ ?_ hH ?_;rotate_left 2
  refine Late.tk 9 ?_ ?_ hH ?_;rotate_left 2
  rotate_left
  any_goals (intro wy hSw;(try dsimp only at hSw);have k0:=(HCZ.out wy hSw).1;go_simp;try (with_reducible rfl))
  try simp only [Act.put,List.setIfInBounds_toArray,List.set_cons_zero,List.set_cons_succ]
  have k9:=(HCZ.out _ HVy.out).1
  have f9:=(HCZ.out _ HVy.out).2
  refine Late.Goes.one (i:=10) (by kernel_rfl) (by simp only [List.getElem?_toArray,List.getElem?_cons_succ,List.getElem?_cons_zero];rfl) (fun K hK=>?_)
  clear hH
  go_simp
  clear k9 f9
  have HF:=Lib.hid ((HMz.out.new HVy.out).set_ 9 (.int .i64 (z+c)) (B':=Bch) HBC.out.1 HBC.out.2.1 HBC.out.2.2.1 HBC.out.2.2.2)
  generalize wy.setCell ⟨rp,9,none⟩ (.int .i64 (z+c))=wx at HF ⊢
  refine hK.out _ _ ?_ (fun _=>?_)
  ·exact fun h=>by cases h
  clear hK K
  try simp only [Act.put,List.setIfInBounds_toArray,List.set_cons_zero,List.set_cons_succ]
  refine Late.Goes.done (by kernel_rfl) ?_ _
  have HEB:=Lib.hid ((HBz.out.trans' (HVy.out.mono (fun _ _ h=>h.elim))).trans' HF.out.2)
  go_wp2_with fail
  go_ret
  rw [HEND.out.1,HEND.out.2]
  exact ⟨rfl,⟨_,_,HF.out.1⟩,HEB.out⟩
theorem rap_k7 (h:RM w rp kv tv B Ks) (o:ROk B Ks) (r:Rcd) (hr:Rec.Is r) (p:Spt) (hp:SpOk p) (hown:Own B r) (hk:r.kind=7) :
  Calls Tryz.prog 10 #[.pointer (some ⟨rp,0,none⟩),Rec.rv r,spV p] w fun e w'=>e = .returned (.bool false)∧RSays w rp (bapp B r) (kapp B r p Ks) w':=by
 have HTL:=Lib.hid (show told B r=false from by unfold told;rw [hk];simp)
 have n1:(r.bucket != B.id)=false:=by simpa using hown.2.1
 have n2:((r.gen:Int) != (B.gen:Int))=false:=by have:=hown.2.2;simp;omega
 have HOW:=Lib.hid hown
 have HK:=Lib.hid hk
 clear hk
 have HCO:=Lib.hid (cost_le hown.1)
 clear hown
 have HX:=Lib.hid (Blk.two w (Rec.cells r) (spB p) 35 37)
 have HB0:=Lib.hid (((But.refl (fun _=>False) w).alloc (.cells (Rec.cells r) 35)).alloc (.cells (spB p) 37))
 have HH:=Lib.hid h
 have HO:=Lib.hid o
 have HIS:=Lib.hid hr
 have hrlt:=h.lt
 clear h o hr hp
 change Calls _ _ #[.pointer (some ⟨rp,0,none⟩),.agg #[.int .i64 r.kind,.int .i64 r.bucket,.int .u32 (r.gen:Int),.int .i64 r.keys,.int .i64 r.bytes,.int .i64 r.budget,.int .u64 (r.seq:Int),.int .u32 (r.serial:Int),.int .i64 r.rights,.int .u64 (r.secret:Int),.string r.key,.string r.val,.int .u64 (r.version:Int),.int .u64 (r.expiry:Int)],.agg #[.int .i64 p.1,.int .i64 p.2.1,.int .i64 p.2.2]] w _
 go_enter Tryz.func10,Tryz.ntmps10
 go_wp2_with (refine wpList_load_row rfl 35 _ rfl w.heap.size rfl 35 _ (0,0) _ HX.out.1 Tryz.underlying35 rfl Rec.rec_size ?_)
 change Calls _ _ _ ((w.alloc (.cells (Rec.cells r) 35)).alloc (.cells (spB p) 37)) _
 obtain ⟨b4,hb4⟩:∃ b,b=w.heap.size:=⟨_,rfl⟩
 rw [← hb4] at HX
 rw [← hb4]
 generalize (w.alloc (.cells (Rec.cells r) 35)).alloc (.cells (spB p) 37)=W at HX HB0 ⊢
 have HNR:=Lib.hid (show b4≠rp∧b4+1≠rp from by omega)
 clear hb4 hrlt
 refine (Rec.refMay_any r _).mono ?_
 rintro e w1 ⟨rfl,hbe⟩
 have hv1:But (fun _=>False) W w1:=But.of_new hbe
 have HX1:=Lib.hid (And.intro (HX.out.1.but hv1 (fun h=>h)) (HX.out.2.but hv1 (fun h=>h)))
 have HB1:=Lib.hid (HB0.out.trans hv1 (fun _ _ h=>h))
 have HM1:=Lib.hid (HH.out.new HB1.out)
 clear hbe hv1 HX HB0
 rw [decide_eq_true HOW.out.1]
 have HC:=Lib.hid (fun V (hV:But (fun _=>False) w1 V)=>(And.intro (show V.cell? ⟨rp,0,none⟩=some (.int .i64 B.id) from (HM1.out.new hV).blk.cell 0) (And.intro (show V.cell? ⟨rp,1,none⟩=some (.int .u32 (B.gen:Int)) from (HM1.out.new hV).blk.cell 1) (And.intro (show V.cell? ⟨b4,1,none⟩=some (.int .i64 r.bucket) from (HX1.out.1.but hV (fun h=>h)).cell 1) (show V.cell? ⟨b4,2,none⟩=some (.int .u32 (r.gen:Int)) from (HX1.out.1.but hV (fun h=>h)).cell 2)))))
 go_wp2_with fail
 refine Late.region_goes (fun V=>But (fun _=>False) w1 V) (fun _=>false) (by kernel_rfl) ?_ (fun hH=>?_)
 ·exact (But.refl _ w1).drew
 refine Late.tk 0 ?_ ?_ hH ?_ (hw:=by kernel_rfl);rotate_left;focus (intro wy hSw;(try dsimp only at hSw);obtain ⟨k0,k1,k2,k3⟩:=HC.out wy hSw;go_simp;try (with_reducible rfl))
 refine Late.tk 1 ?_ ?_ hH ?_ (hw:=by kernel_rfl);rotate_left;focus (intro wy hSw;(try dsimp only at hSw);obtain ⟨k0,k1,k2,k3⟩:=HC.out wy hSw;go_simp;try (with_reducible rfl))
 refine Late.tk 2 ?_ ?_ hH ?_ (hw:=by kernel_rfl);rotate_left;focus (intro wy hSw;(try dsimp only at hSw);obtain ⟨k0,k1,k2,k3⟩:=HC.out wy hSw;go_simp;try (with_reducible rfl))
 refine Late.tk 3 ?_ ?_ hH ?_ (hw:=by kernel_rfl);rotate_left;focus (intro wy hSw;(try dsimp only at hSw);obtain ⟨k0,k1,k2,k3⟩:=HC.out wy hSw;go_simp;try (with_reducible rfl))
 refine Late.tk 4 ?_ ?_ hH ?_ (hw:=by kernel_rfl);rotate_left;focus (intro wy hSw;(try dsimp only at hSw);obtain ⟨k0,k1,k2,k3⟩:=HC.out wy hSw;go_simp;try (with_reducible rfl))
 refine Late.tk 5 ?_ ?_ hH ?_ (hw:=by kernel_rfl);rotate_left;focus (intro wy hSw;(try dsimp only at hSw);obtain ⟨k0,k1,k2,k3⟩:=HC.out wy hSw;go_simp;try (with_reducible rfl))
 refine Late.tk 6 ?_ ?_ hH ?_ (hw:=by kernel_rfl);rotate_left;focus (intro wy hSw;(try dsimp only at hSw);obtain ⟨k0,k1,k2,k3⟩:=HC.out wy hSw;go_simp;try (with_reducible rfl))
 refine Late.tk 7 ?_ ?_ hH ?_ (hw:=by kernel_rfl);rotate_left;focus (intro wy hSw;(try dsimp only at hSw);obtain ⟨k0,k1,k2,k3⟩:=HC.out wy hSw;go_simp;try (with_reducible rfl))
 refine Late.tk 8 ?_ ?_ hH ?_ (hw:=by kernel_rfl);rotate_left;focus (intro wy hSw;(try dsimp only at hSw);obtain ⟨k0,k1,k2,k3⟩:=HC.out wy hSw;go_simp;try (with_reducible rfl))
 refine Late.tk 9 ?_ ?_ hH ?_ (hw:=by kernel_rfl);rotate_left;focus (intro wy hSw;(try dsimp only at hSw);obtain ⟨k0,k1,k2,k3⟩:=HC.out wy hSw;go_simp;try (with_reducible rfl))
 refine Late.tk 10 ?_ ?_ hH ?_ (hw:=by kernel_rfl);rotate_left;focus (intro wy hSw;(try dsimp only at hSw);obtain ⟨k0,k1,k2,k3⟩:=HC.out wy hSw;go_simp;try (with_reducible rfl))
 refine Late.tk 11 ?_ ?_ hH ?_ (hw:=by kernel_rfl);rotate_left;focus (intro wy hSw;(try dsimp only at hSw);obtain ⟨k0,k1,k2,k3⟩:=HC.out wy hSw;go_simp;try (with_reducible rfl))
 refine Late.tk 12 ?_ ?_ hH ?_ (hw:=by kernel_rfl);rotate_left;focus (intro wy hSw;(try dsimp only at hSw);obtain ⟨k0,k1,k2,k3⟩:=HC.out wy hSw;go_simp;try (with_reducible rfl))
 refine Late.tk 13 ?_ ?_ hH ?_ (hw:=by kernel_rfl);rotate_left;focus (intro wy hSw;(try dsimp only at hSw);obtain ⟨k0,k1,k2,k3⟩:=HC.out wy hSw;go_simp;try (with_reducible rfl))
 refine Late.tk 14 ?_ ?_ hH ?_ (hw:=by kernel_rfl);rotate_left;focus (intro wy hSw;(try dsimp only at hSw);obtain ⟨k0,k1,k2,k3⟩:=HC.out wy hSw;go_simp;try (with_reducible rfl))
 refine Late.tk 15 ?_ ?_ hH ?_ (hw:=by kernel_rfl);rotate_left;focus (intro wy hSw;(try dsimp only at hSw);obtain ⟨k0,k1,k2,k3⟩:=HC.out wy hSw;go_simp;try (with_reducible rfl))
 refine Late.tk 16 ?_ ?_ hH ?_ (hw:=by kernel_rfl);rotate_left;focus (intro wy hSw;(try dsimp only at hSw);obtain ⟨k0,k1,k2,k3⟩:=HC.out wy hSw;go_simp;try (with_reducible rfl))
 refine Late.tk 17 ?_ ?_ hH ?_ (hw:=by kernel_rfl);rotate_left;focus (intro wy hSw;(try dsimp only at hSw);obtain ⟨k0,k1,k2,k3⟩:=HC.out wy hSw;go_simp;try (with_reducible rfl))
 refine Late.tk 18 ?_ ?_ hH ?_ (hw:=by kernel_rfl);rotate_left;focus (intro wy hSw;(try dsimp only at hSw);obtain ⟨k0,k1,k2,k3⟩:=HC.out wy hSw;go_simp;try (with_reducible rfl))
 refine Late.tk 19 ?_ ?_ hH ?_ (hw:=by kernel_rfl);rotate_left;focus (intro wy hSw;(try dsimp only at hSw);obtain ⟨k0,k1,k2,k3⟩:=HC.out wy hSw;go_simp;try (with_reducible rfl))
 try simp only [Act.put,List.setIfInBounds_toArray,List.set_cons_zero,List.set_cons_succ]
 refine Late.Goes.done (by kernel_rfl) ?_ _
 have HV:=Lib.hid hH
 clear hH n1 n2
 have HX2:=Lib.hid (And.intro (HX1.out.1.but HV.out (fun h=>h)) (HX1.out.2.but HV.out (fun h=>h)))
 have HM2:=Lib.hid (HM1.out.new HV.out)
 have HB2:=Lib.hid (HB1.out.trans HV.out (fun _ _ h=>h))
 generalize w1.drew=w2 at HX2 HM2 HB2 ⊢
 have c0:w2.cell? ⟨b4,0,none⟩=some (.int .i64 7):=by
  have h:w2.cell? ⟨b4,0,none⟩=some (.int .i64 r.kind):=HX2.out.1.cell 0
  rw [HK.out] at h
  exact h
 clear HX1 HM1 HC HV
 go_wp2_with fail
 go_ret
 exact ⟨rfl,rno HH.out HB2.out HTL.out⟩
theorem rap_any (h:RM w rp kv tv B Ks) (o:ROk B Ks) (r:Rcd) (hr:Rec.Is r) (p:Spt) (hp:SpOk p) :
  Calls Tryz.prog 10 #[.pointer (some ⟨rp,0,none⟩),Rec.rv r,spV p] w fun e w'=>e = .returned (.bool (told B r))∧RSays w rp (bapp B r) (kapp B r p Ks) w':=by
 by_cases hm:Rec.May r
 ·by_cases hid:r.bucket=B.id
  ·by_cases hg:r.gen=B.gen
   ·have hown:Own B r:=⟨hm,hid,hg⟩
    have tl:∀ b,(r.kind == 1 || r.kind == 3 || r.kind == 4 || (r.kind == 5 && decide (Rgt.putErr r.serial r.rights B.toks=0)) || r.kind == 6)=b→told B r=b:=fun b hb=>by unfold told;rw [decide_eq_true hown,hb];rfl
    have hk:r.kind=1∨r.kind=2∨r.kind=3∨r.kind=4∨r.kind=5∨r.kind=6∨r.kind=7:=by have:=hm.1;have:=hm.2.1;omega
    rcases hk with hk|hk|hk|hk|hk|hk|hk
    ·rw [tl true (by rw [hk];rfl)];exact rap_meta h o r hr p hp hown hk
    ·rw [tl false (by rw [hk];rfl)];exact rap_k2 h o r hr p hp hown hk
    ·rw [tl true (by rw [hk];rfl)];exact rap_put h o r hr p hp hown hk
    ·rw [tl true (by rw [hk];rfl)];exact rap_del h o r hr p hp hown hk
    ·by_cases hpe:Rgt.putErr r.serial r.rights B.toks=0
     ·rw [tl true (by rw [hk,decide_eq_true hpe];rfl)]
      cases hl:(Rgt.look r.serial B.toks).isSome with
      | true=>exact rap_tokr h o r hr p hp hown hk hpe hl
      | false=>exact rap_tokn h o r hr p hp hown hk hpe hl
     ·rw [tl false (by rw [hk,decide_eq_false hpe];rfl)];exact rap_full h o r hr p hp hown hk hpe
    ·rw [tl true (by rw [hk];rfl)];exact rap_rev h o r hr p hp hown hk
    ·rw [tl false (by rw [hk];rfl)];exact rap_k7 h o r hr p hp hown hk
   ·rw [show told B r=false from by unfold told;rw [decide_eq_false (fun h:Own B r=>hg h.2.2)];rfl]
    exact rap_gen h o r hr p hp hm hid hg
  ·rw [show told B r=false from by unfold told;rw [decide_eq_false (fun h:Own B r=>hid h.2.1)];rfl]
   exact rap_id h o r hr p hp hm hid
 ·rw [show told B r=false from by unfold told;rw [decide_eq_false (fun h:Own B r=>hm h.1)];rfl]
  exact rap_may h o r hr p hp hm
end
end Go.Proofs.YtgjofinbdigmcaaGreat.Buk

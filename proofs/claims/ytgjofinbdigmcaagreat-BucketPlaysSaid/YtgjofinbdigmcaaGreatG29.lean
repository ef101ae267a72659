/- Contracts of the bucket's New, Meta and Tokens. Contract of the bucket's Tokens. -/
import Derived.Test.YtgjofinbdigmcaaGreatG23
import Derived.Test.YtgjofinbdigmcaaGreatG28
set_option linter.unusedSimpArgs false
set_option linter.unusedVariables false
set_option maxHeartbeats 2000000
set_option maxRecDepth 100000
section
namespace Go.Proofs.YtgjofinbdigmcaaGreat.Buk
open Go.Proofs.YtgjofinbdigmcaaGreat.Mem
open Go.ChangeShapes Go.WideShapes Go.ChangeAt Go.RowKit
def newB (id:Int) (gen:Nat) (q1 q2 q3:Int):Bk:=⟨id,gen,q1,q2,q3,1,1,0,0,[]⟩
abbrev noT:Tab:=List.replicate 8 none
theorem all_new:all noT=[]:=by simp [all]
theorem ok_new (id:Int) (gen:Nat) (q1 q2 q3:Int) (hid : -9223372036854775808≤id∧id≤9223372036854775807) (hg:gen < 4294967296):Ok (newB id gen q1 q2 q3) noT [] 0 :=
 ⟨by rw [all_new];rfl,fun e he=>by simp at he,Nat.le_refl _,fun x hx=>absurd hx List.not_mem_nil,fun e he=>by simp at he,hid,hg,by show 1 < _;omega,by show 1 < _;omega,by show (0:Int)≤0∧(0:Int)≤_;simp⟩
def metaR (B:Bk):Rcd:=⟨1,B.id,B.gen,B.q1,B.q2,B.q3,B.seq,B.serial,0,0,Rec.nothing,Rec.nothing,0,0⟩
def tokR (id:Int) (gen:Nat) (x:Rgt.Tok):Rcd:=⟨5,id,gen,0,0,0,0,x.s,x.r,x.k,Rec.nothing,Rec.nothing,0,0⟩
theorem results_row1 {P:Program} {fn:Func} {p:Tmp} {ty:TypeId} (h:fn.results = #[.cell p ty]) (tmps:Array Value) (w:World) (g:Nat) (t:TypeId) (cs:Array Value) (fr:Nat × Nat) (d:TypeDesc)
  (hp:tmps.getD p undef = .pointer (some ⟨g,0,none⟩)) (hg:w.heap[g]?=some (.cells cs t fr))
  (hu:P.underlying ty=some d) (hd:(match d with | .struct _ | .array _ _=>true|_=>false)=true) (hi:(P.info? ty).map (·.size)=some cs.size) :
  (results fn tmps).run P w = .ok (.agg cs) w:=by
 have hp':tmps[p]?.getD undef = .pointer (some ⟨g,0,none⟩):=by simpa using hp
 simp [results,h,hp',asAddr,run_loadVar_row w g t ty cs fr d hg hu hd hi]
abbrev quB (a b c:Int):Array Value := #[.int .i64 a,.int .i64 b,.int .i64 c]
theorem new_any (id:Int) (gen:Nat) (q1 q2 q3:Int) (w:World):Calls Tryz.prog 5 #[.int .i64 id,.int .u32 (gen:Int),.agg #[.int .i64 q1,.int .i64 q2,.int .i64 q3]] w fun e w'=>∃ s,e = .returned (.pointer (some ⟨s.p,0,none⟩))∧BM w' s (newB id gen q1 q2 q3) noT [] 0∧(∀ k,Foot s k→w.heap.size≤k)∧But (fun _=>False) w w':=by
 have HX:=Lib.hid (Blk.new w 24 (quB q1 q2 q3))
 have HB0:=Lib.hid ((But.refl (fun _=>False) w).alloc (.cells (quB q1 q2 q3) 24))
 go_enter Tryz.func5,Tryz.ntmps5
 go_wp2_with fail
 obtain ⟨b5,hb5⟩:∃ b,b=w.heap.size:=⟨_,rfl⟩
 change Code.wp _ _ _ _ (w.alloc (.cells (quB q1 q2 q3) 24))
 rw [← hb5] at HX ⊢
 generalize w.alloc (.cells (quB q1 q2 q3) 24)=W at HX HB0 ⊢
 clear hb5
 have HXR:=Lib.hid (fun V (hV:But (fun _=>False) W V)=>show V.rangeAt b5 0 [.int .i64 q1,.int .i64 q2,.int .i64 q3] from blk_range0 (A:=[]) (B:=[.int .i64 q1,.int .i64 q2,.int .i64 q3]) (HX.out.but hV (fun h=>h)))
 refine Late.region_goes (fun V=>But (fun _=>False) W V) (fun _=>false) (by kernel_rfl) ?_ (fun hH=>?_)
 ·exact (But.refl _ W).drew
 refine Late.tk 0 ?_ ?_ hH ?_;rotate_left 2
 refine Late.tk 1 ?_ ?_ hH ?_;rotate_left 2
 rotate_left
 any_goals (intro wy hSw;(try dsimp only at hSw);skip;go_simp;try (with_reducible rfl))
 try simp only [Act.put,List.setIfInBounds_toArray,List.set_cons_zero,List.set_cons_succ]
 refine Late.Goes.takeT (i:=2) (v:=_) (by simp only [List.getElem?_toArray,List.getElem?_cons_succ,List.getElem?_cons_zero];rfl) (by kernel_rfl) (by kernel_rfl) (by kernel_rfl) (by kernel_rfl) (by kernel_rfl) (by exact fun _ _ _ h=>h) (yields_quota (by rfl) _ rfl b5 0 rfl q1 q2 q3 (fun V hV=>HXR.out V hV)) hH ?_
 try simp only [Act.put,List.setIfInBounds_toArray,List.set_cons_zero,List.set_cons_succ]
 have HV:=Lib.hid hH
 refine Late.Goes.one (i:=3) (by kernel_rfl) (by simp only [List.getElem?_toArray,List.getElem?_cons_succ,List.getElem?_cons_zero];rfl) (fun K hK=>?_)
 clear hH
 go_simp
 go_at_call 21
 refine (Key.knew_any _).mono ?_
 rintro e w1 ⟨rfl,hk1,hb1⟩
 have HK1:=Lib.hid hk1
 have HV1:=Lib.hid (HV.out.trans hb1 (fun _ _ h=>h))
 clear hk1 hb1
 refine hK.out _ _ ?_ (fun hH=>?_)
 ·exact fun _=>HV1.out
 clear hK K
 have hH:=hH rfl
 try simp only [Act.put,List.setIfInBounds_toArray,List.set_cons_zero,List.set_cons_succ]
 refine Late.Goes.one (i:=4) (by kernel_rfl) (by simp only [List.getElem?_toArray,List.getElem?_cons_succ,List.getElem?_cons_zero];rfl) (fun K hK=>?_)
 clear hH
 go_simp
 go_at_call 22
 refine (Exp.hnew_any _).mono ?_
 rintro e w2 ⟨rfl,hk2,hb2⟩
 have HK2:=Lib.hid hk2
 have HB2:=Lib.hid hb2
 have HV2:=Lib.hid (HV1.out.trans hb2 (fun _ _ h=>h))
 clear hk2 hb2
 refine hK.out _ _ ?_ (fun hH=>?_)
 ·exact fun _=>HV2.out
 clear hK K
 have hH:=hH rfl
 try simp only [Act.put,List.setIfInBounds_toArray,List.set_cons_zero,List.set_cons_succ]
 refine Late.Goes.one (i:=5) (by kernel_rfl) (by simp only [List.getElem?_toArray,List.getElem?_cons_succ,List.getElem?_cons_zero];rfl) (fun K hK=>?_)
 clear hH
 go_simp
 go_at_call 23
 refine (Rgt.rgt_new _).mono ?_
 rintro e w3 ⟨tp,tm,rfl,hk3,⟨htp,htm⟩,hb3⟩
 have HK3:=Lib.hid hk3
 have HB3:=Lib.hid hb3
 have HV3:=Lib.hid (HV2.out.trans hb3 (fun _ _ h=>h))
 have HTT:=Lib.hid (And.intro htp htm)
 clear hk3 hb3 htp htm
 refine hK.out _ _ ?_ (fun hH=>?_)
 ·exact fun _=>HV3.out
 clear hK K
 have hH:=hH rfl
 try simp only [Act.put,List.setIfInBounds_toArray,List.set_cons_zero,List.set_cons_succ]
 refine Late.tk 6 ?_ ?_ hH ?_;rotate_left 2
 rotate_left
 any_goals (intro wy hSw;(try dsimp only at hSw);skip;go_simp;try (with_reducible rfl))
 try simp only [Act.put,List.setIfInBounds_toArray,List.set_cons_zero,List.set_cons_succ]
 refine Late.Goes.one (i:=7) (by kernel_rfl) (by simp only [List.getElem?_toArray,List.getElem?_cons_succ,List.getElem?_cons_zero];rfl) (fun K hK=>?_)
 clear hH
 go_simp
 have hb4:But (fun _=>False) w3 (w3.alloc (.cells (bcells (newB id gen q1 q2 q3) ⟨w3.heap.size,W.drew.heap.size+1,W.drew.heap.size,w1.heap.size,.slice none 0 0,w1.heap.size,tp,tm⟩) 60)):=(But.refl _ w3).alloc _
 have HE:=Lib.hid (show ∃ s:Bl,s.p=w3.heap.size∧BM (w3.alloc (.cells (bcells (newB id gen q1 q2 q3) ⟨w3.heap.size,W.drew.heap.size+1,W.drew.heap.size,w1.heap.size,.slice none 0 0,w1.heap.size,tp,tm⟩) 60)) s (newB id gen q1 q2 q3) noT [] 0∧(∀ k,Foot s k→w.heap.size≤k) from by
  have hb2':=HB2.out.trans HB3.out (fun _ _ h=>h)
  have h0:=HB0.out.size
  have h1:W.drew.heap.size=W.heap.size:=rfl
  have h2:=HV1.out.size
  have h3:=HV2.out.size
  have h4:=HV3.out.size
  refine ⟨⟨w3.heap.size,W.drew.heap.size+1,W.drew.heap.size,w1.heap.size,.slice none 0 0,w1.heap.size,tp,tm⟩,rfl,⟨Blk.new _ _ _,(HK1.out.but hb2' (fun h=>h) (fun h=>h)).but hb4 (fun h=>h) (fun h=>h),(HK2.out.new HB3.out).new hb4,HK3.out.new hb4⟩,?_⟩
  have h5:=HTT.out
  rintro k (e|e|e|e|e|e|e)
  ·have e:k=w3.heap.size:=e
   omega
  ·have e:k=W.drew.heap.size+1:=e
   omega
  ·have e:k=W.drew.heap.size:=e
   omega
  ·have e:k=w1.heap.size:=e
   omega
  ·cases e
  ·have e:k=tp:=e
   omega
  ·have e:k=tm:=e
   omega)
 have HFB:=Lib.hid ((HB0.out.trans HV3.out (fun _ _ h=>h)).trans hb4 (fun _ _ h=>h))
 change K (_:Act) (w3.alloc (.cells (bcells (newB id gen q1 q2 q3) ⟨w3.heap.size,W.drew.heap.size+1,W.drew.heap.size,w1.heap.size,.slice none 0 0,w1.heap.size,tp,tm⟩) 60))
 have HV4:=Lib.hid (HV3.out.trans hb4 (fun _ _ h=>h))
 clear hb4
 generalize w3.alloc (.cells (bcells (newB id gen q1 q2 q3) ⟨w3.heap.size,W.drew.heap.size+1,W.drew.heap.size,w1.heap.size,.slice none 0 0,w1.heap.size,tp,tm⟩) 60)=w4 at HE HFB HV4 ⊢
 refine hK.out _ _ ?_ (fun hH=>?_)
 ·exact fun _=>HV4.out
 clear hK K
 have hH:=hH rfl
 try simp only [Act.put,List.setIfInBounds_toArray,List.set_cons_zero,List.set_cons_succ]
 refine Late.tk 8 ?_ ?_ hH ?_;rotate_left 2
 rotate_left
 any_goals (intro wy hSw;(try dsimp only at hSw);skip;go_simp;try (with_reducible rfl))
 try simp only [Act.put,List.setIfInBounds_toArray,List.set_cons_zero,List.set_cons_succ]
 refine Late.Goes.done (by kernel_rfl) ?_ _
 go_wp2_with fail
 go_ret
 obtain ⟨s,h1,h2,h3⟩:=HE.out
 exact ⟨s,by rw [h1];rfl,h2,h3,HFB.out⟩
section
variable {w w':World} {s:Bl} {B:Bk} {T:Tab} {m:List It} {i:Nat}
theorem range_q {w:World} {s:Bl} {B:Bk} {t:TypeId} {g:Nat} (h:Blk w g t (bcells B s)):w.rangeAt g 2 [.int .i64 B.q1,.int .i64 B.q2,.int .i64 B.q3]:=by
 intro j v hv
 have hj:j < 3:=(List.getElem?_eq_some_iff.1 hv).1
 rw [h.cell]
 rcases j with _|_|_|j
 ·exact hv
 ·exact hv
 ·exact hv
 ·omega
theorem rcs_one (r:Rcd):∀ v ∈ rcs r,v.oneCell'=true:=by simp [rcs,Value.oneCell']
theorem meta_any (h:BM w s B T m i):Calls Tryz.prog 18 #[.pointer (some ⟨s.p,0,none⟩)] w fun e w'=>e = .returned (Rec.rv (metaR B))∧But (fun _=>False) w w':=by
 have HX:=Lib.hid (Blk.new w 35 (Rec.cells Rec.zero))
 have HB0:=Lib.hid ((But.refl (fun _=>False) w).alloc (.cells (Rec.cells Rec.zero) 35))
 have HM:=Lib.hid (fun V (hV:But (fun _=>False) w V)=>h.new hV)
 have HC:=Lib.hid (fun V (hV:But (fun _=>False) w V)=>And.intro (show V.cell? ⟨s.p,0,none⟩=some (.int .i64 B.id) from (h.new hV).cell 0) (And.intro (show V.cell? ⟨s.p,1,none⟩=some (.int .u32 (B.gen:Int)) from (h.new hV).cell 1) (And.intro (show V.cell? ⟨s.p,5,none⟩=some (.int .u64 (B.seq:Int)) from (h.new hV).cell 5) (show V.cell? ⟨s.p,6,none⟩=some (.int .u32 (B.serial:Int)) from (h.new hV).cell 6))))
 clear h
 go_enter Tryz.func18,Tryz.ntmps18
 go_wp2_with fail
 obtain ⟨b2,hb2⟩:∃ b,b=w.heap.size:=⟨_,rfl⟩
 change Code.wp _ _ _ _ (w.alloc (.cells (Rec.cells Rec.zero) 35))
 rw [← hb2] at HX ⊢
 generalize w.alloc (.cells (Rec.cells Rec.zero) 35)=W at HX HB0 ⊢
 have HBL:=Lib.hid (show w.heap.size≤b2 from by omega)
 clear hb2
 refine Late.region_goes (fun V=>V=W.drew) (fun j=>j == 21) (by kernel_rfl) ?_ (fun hH=>?_)
 ·rfl
 refine Late.tk 0 ?_ ?_ hH ?_;rotate_left 2
 refine Late.tk 1 ?_ ?_ hH ?_;rotate_left 2
 refine Late.tk 2 ?_ ?_ hH ?_;rotate_left 2
 refine Late.tk 3 ?_ ?_ hH ?_;rotate_left 2
 refine Late.tk 4 ?_ ?_ hH ?_;rotate_left 2
 refine Late.tk 5 ?_ ?_ hH ?_;rotate_left 2
 refine Late.tk 6 ?_ ?_ hH ?_;rotate_left 2
 refine Late.tk 7 ?_ ?_ hH ?_;rotate_left 2
 refine Late.tk 8 ?_ ?_ hH ?_;rotate_left 2
 refine Late.tk 9 ?_ ?_ hH ?_;rotate_left 2
 refine Late.tk 10 ?_ ?_ hH ?_;rotate_left 2
 refine Late.tk 12 ?_ ?_ hH ?_;rotate_left 2
 refine Late.tk 13 ?_ ?_ hH ?_;rotate_left 2
 refine Late.tk 14 ?_ ?_ hH ?_;rotate_left 2
 refine Late.tk 15 ?_ ?_ hH ?_;rotate_left 2
 refine Late.tk 16 ?_ ?_ hH ?_;rotate_left 2
 refine Late.tk 17 ?_ ?_ hH ?_;rotate_left 2
 refine Late.tk 18 ?_ ?_ hH ?_;rotate_left 2
 refine Late.tk 19 ?_ ?_ hH ?_;rotate_left 2
 rotate_left
 any_goals (intro wy hSw;(try dsimp only at hSw);subst hSw;have kk:=HC.out _ HB0.out.drew;have k0:=kk.1;have k1:=kk.2.1;have k2:=kk.2.2.1;have k3:=kk.2.2.2;clear kk;go_simp;try (with_reducible rfl))
 try simp only [Act.put,List.setIfInBounds_toArray,List.set_cons_zero,List.set_cons_succ]
 refine Late.Goes.takeT (i:=11) (v:=_) (by simp only [List.getElem?_toArray,List.getElem?_cons_succ,List.getElem?_cons_zero];rfl) (by kernel_rfl) (by kernel_rfl) (by kernel_rfl) (by kernel_rfl) (by kernel_rfl) (by exact fun _ _ _ h=>h) (yields_quota (by rfl) _ rfl s.p 2 rfl B.q1 B.q2 B.q3 (fun V hV=>by rw [hV];exact range_q (HM.out _ HB0.out.drew).blk)) hH ?_
 try simp only [Act.put,List.setIfInBounds_toArray,List.set_cons_zero,List.set_cons_succ]
 refine Late.tk 20 ?_ ?_ hH ?_;rotate_left 2
 rotate_left
 any_goals (intro wy hSw;(try dsimp only at hSw);subst hSw;have kk:=HC.out _ HB0.out.drew;have k0:=kk.1;have k1:=kk.2.1;have k2:=kk.2.2.1;have k3:=kk.2.2.2;clear kk;go_simp;try (with_reducible rfl))
 try simp only [Act.put,List.setIfInBounds_toArray,List.set_cons_zero,List.set_cons_succ]
 refine Late.Goes.one (i:=21) (by kernel_rfl) (by simp only [List.getElem?_toArray,List.getElem?_cons_succ,List.getElem?_cons_zero];rfl) (fun K hK=>?_)
 clear hH
 refine Key.wp_store_blk (by rfl) 35 _ _ rfl b2 0 (rcs (metaR B)) rfl rfl (blk_there0 (cs:=rcs Rec.zero) (HX.out.but ((But.refl (fun _=>False) W).drew) (fun h=>h)) (by rfl)) Rec.rec_size (rcs_one _) ?_
 have HS:=Lib.hid (And.intro (blk_set0 (cs:=rcs Rec.zero) (vs:=rcs (metaR B)) (HX.out.but ((But.refl (fun _=>False) W).drew) (fun h=>h)) (by rfl)) (HB0.out.drew.trans (but_setCells b2 (rcs (metaR B)) 0 W.drew) (fun k hk e=>by have:=HBL.out;omega)))
 generalize W.drew.setCells b2 0 (rcs (metaR B))=W3 at HS ⊢
 refine hK.out _ _ ?_ (fun _=>?_)
 ·exact fun h=>by cases h
 clear hK K
 try simp only [Act.put,List.setIfInBounds_toArray,List.set_cons_zero,List.set_cons_succ]
 refine Late.Goes.done (by kernel_rfl) ?_ _
 go_wp2_with fail
 refine bodyPost_ret (results_row1 rfl _ _ b2 35 (Rec.cells (metaR B)) (0,0) _ rfl HS.out.1 Tryz.underlying35 rfl Rec.rec_size) rfl ?_
 exact ⟨rfl,HS.out.2⟩
def rcl (L:List Rcd):List Value:=L.flatMap rcs
theorem rcs_length (r:Rcd):(rcs r).length=14:=rfl
def RRow (w:World) (g:Nat) (L:List Rcd) (rest:List Value):Prop:=Blk w g 35 (rcl L++rest).toArray
theorem RRow.cell {g:Nat} {L:List Rcd} {rest:List Value} (h:RRow w g L rest) {k:Nat} (hk:k < L.length) {j:Nat} (hj:j < 14):w.cell? ⟨g,k * 14+j,none⟩=(rcs L[k])[j]?:=by
 have hl:(rcl L).length=L.length * 14:=flat_length rcs_length L
 have h1:w.cell? ⟨g,k * 14+j,none⟩=(rcl L++rest).toArray[k * 14+j]?:=Blk.cell h (k * 14+j)
 rw [h1,List.getElem?_toArray,List.getElem?_append_left (by rw [hl];omega)]
 exact flat_get rcs_length (List.getElem?_eq_getElem hk) hj
theorem RRow.mark {g:Nat} {L:List Rcd} {rest:List Value} (h:RRow w g L rest) {k:Nat} {x:Rgt.Tok} (hk:k < L.length) (hx:L[k]=tokR 0 1 x) (id:Int) (gen:Nat):RRow (w.setCells g (k * 14+1) [.int .i64 id,.int .u32 (gen:Int)]) g (L.set k (tokR id gen x)) rest:=by
 have hs:L[k]?=some (tokR 0 1 x):=by rw [List.getElem?_eq_getElem hk,hx]
 have h1:Blk w g 35 (rcl L++rest).toArray:=h
 unfold rcl at h1
 rw [flat_split hs] at h1
 have hA:(L.take k).flatMap rcs++rcs (tokR 0 1 x)++(L.drop (k+1)).flatMap rcs++rest=((L.take k).flatMap rcs++[.int .i64 5])++[.int .i64 0,.int .u32 1]++((rcs (tokR 0 1 x)).drop 3++((L.drop (k+1)).flatMap rcs++rest)):=by
  simp [rcs,tokR]
 rw [hA] at h1
 have h2:=Exp.blk_setCells (vs:=[.int .i64 id,.int .u32 (gen:Int)]) h1 rfl
 have hln:((L.take k).flatMap rcs++[Value.int .i64 5]).length=k * 14+1:=by
  rw [List.length_append,flat_length rcs_length,List.length_take,Nat.min_eq_left (by omega)]
  rfl
 rw [hln] at h2
 show Blk _ _ _ (rcl (L.set k (tokR id gen x))++rest).toArray
 unfold rcl
 rw [flat_set (tokR id gen x) hk]
 have hB:(L.take k).flatMap rcs++rcs (tokR id gen x)++(L.drop (k+1)).flatMap rcs++rest=((L.take k).flatMap rcs++[.int .i64 5])++[.int .i64 id,.int .u32 (gen:Int)]++((rcs (tokR 0 1 x)).drop 3++((L.drop (k+1)).flatMap rcs++rest)):=by
  simp [rcs,tokR]
 rw [hB]
 exact h2
end
end Go.Proofs.YtgjofinbdigmcaaGreat.Buk
end
section
namespace Go.Proofs.YtgjofinbdigmcaaGreat.Buk
open Go.Proofs.YtgjofinbdigmcaaGreat.Mem
open Go.ChangeShapes Go.WideShapes Go.ChangeAt Go.RowKit
theorem rcl_map (l:List Rgt.Tok):Rgt.rcl l=rcl (l.map (tokR 0 1)):=by
 unfold Rgt.rcl rcl
 rw [List.flatMap_map]
 rfl
def marks (id:Int) (gen:Nat) (l:List Rgt.Tok) (k:Nat):List Rcd:=(l.take k).map (tokR id gen)++(l.drop k).map (tokR 0 1)
theorem marks_length (id:Int) (gen:Nat) (l:List Rgt.Tok) (k:Nat):(marks id gen l k).length=l.length:=by
 unfold marks
 rw [List.length_append,List.length_map,List.length_map,← List.length_append,List.take_append_drop]
theorem marks_get {id:Int} {gen:Nat} {l:List Rgt.Tok} {k:Nat} (h:k < l.length) (h':k < (marks id gen l k).length):(marks id gen l k)[k]=tokR 0 1 l[k]:=by
 apply Option.some.inj
 rw [← List.getElem?_eq_getElem h']
 unfold marks
 rw [List.getElem?_append_right (by simp;omega)]
 simp [Nat.min_eq_left (Nat.le_of_lt h),h]
theorem marks_next {id:Int} {gen:Nat} {l:List Rgt.Tok} {k:Nat} (h:k < l.length):(marks id gen l k).set k (tokR id gen l[k])=marks id gen l (k+1):=by
 have hl:((l.take k).map (tokR id gen)).length=k:=by simp;omega
 unfold marks
 rw [List.drop_eq_getElem_cons h,List.take_succ_eq_append_getElem h,List.map_append,List.map_cons,List.set_append_right _ _ (by omega),hl,Nat.sub_self]
 simp
theorem marks_done (id:Int) (gen:Nat) (l:List Rgt.Tok):marks id gen l l.length=l.map (tokR id gen):=by simp [marks]
section
variable {w w':World} {s:Bl} {B:Bk} {T:Tab} {m:List It} {i:Nat}
theorem tokR_is {B:Bk} (hid : -9223372036854775808≤B.id∧B.id≤9223372036854775807) (hgn:B.gen < 4294967296) (hg:Rgt.Good B.toks):∀ r ∈ B.toks.map (tokR B.id B.gen),Rec.Is r:=by
 intro r hr
 obtain ⟨x,hx,rfl⟩:=List.mem_map.1 hr
 have h:=hg.ok x hx
 exact ⟨by show (-9223372036854775808:Int)≤5∧(5:Int)≤_;omega,hid,hgn,by show 0 < _;omega,h.s,⟨by show _≤x.r;have:=h.r;omega,by show x.r≤_;have:=h.r;omega⟩,h.k,by show 0≤_;omega,by show 0≤_;omega,by show 0 < _;omega,by show 0 < _;omega⟩
theorem rrow_recs {g:Nat} {L:List Rcd} {rest:List Value} (h:RRow w g L rest) (hi:∀ r ∈ L,Rec.Is r):Rec.Recs w (some ⟨g,0,none⟩) L:=by
 refine ⟨hi,fun h0=>⟨g,0,rfl,Blk.lt h,fun k hk j u hu=>?_⟩⟩
 have hj:j < 14:=(List.getElem?_eq_some_iff.1 (show (rcs L[k])[j]?=some u by rw [← List.getElem?_toArray];exact hu)).1
 rw [Nat.zero_add,h.cell hk hj,← List.getElem?_toArray]
 exact hu
theorem tokens_at (h:BM w s B T m i) (hid : -9223372036854775808≤B.id∧B.id≤9223372036854775807) (hgn:B.gen < 4294967296):Calls Tryz.prog 46 #[.pointer (some ⟨s.p,0,none⟩)] w fun e w'=>∃ a c,e = .returned (.slice a B.toks.length c)∧Rec.Recs w' a (B.toks.map (tokR B.id B.gen))∧(∀ b off,a=some ⟨b,off,none⟩→0 < B.toks.length→w.heap.size≤b)∧But (fun _=>False) w w':=by
 have HIS:=Lib.hid (tokR_is hid hgn h.tok.good)
 have HM:=Lib.hid h
 have HLT:=Lib.hid h.lt
 have k9:w.cell? ⟨s.p,9,none⟩=some (.pointer (some ⟨s.tp,0,none⟩)):=h.cell 9
 have HA:=Lib.hid (Rgt.rgt_all h.tok)
 have hln:B.toks.length≤100:=h.tok.good.len
 obtain ⟨n,hn⟩:∃ n,n=B.toks.length:=⟨_,rfl⟩
 have HN:=Lib.hid hn
 rw [← hn] at hln HA ⊢
 clear h hn hid hgn
 go_enter Tryz.func46,Tryz.ntmps46
 go_wp2_with fail
 refine HA.out.mono ?_
 rintro e w1 ⟨a,c,rfl,hown,hb1⟩
 have HB1:=Lib.hid hb1
 clear k9 HA
 by_cases hz:n=0
 ·have hnil:B.toks=[]:=List.eq_nil_of_length_eq_zero (by rw [← HN.out];exact hz)
  have HNI:=Lib.hid hnil
  clear hown hb1 hnil
  subst hz
  go_wp2_with fail
  go_loopw [12] (fun v wr=>v = .int .i64 0∧wr=w1) (fun _ _=>0)
  case atStart=>exact ⟨rfl,rfl⟩
  case round =>
   obtain ⟨rfl,rfl⟩:=hrel
   go_wp2
   go_ret
   refine ⟨a,c,rfl,?_,fun b off _ h=>absurd h (by omega),HB1.out⟩
   rw [HNI.out]
   exact Rec.Recs.nil _ _
 ·obtain ⟨g,cap,rest,he,hR,hgb⟩:∃ g cap rest,(Value.slice a n c) = .slice (some ⟨g,0,none⟩) n cap∧RRow w1 g (B.toks.map (tokR 0 1)) rest∧w.heap.size≤g:=by
   have h1:=hown.1
   rcases hown.2 with ⟨_,h2⟩|⟨g,cap,cur,h1,h2,h3,h4,h5,h6,h7⟩
   ·omega
   ·refine ⟨g,cap,cur.toList.drop (n * 14),h1,?_,h2⟩
    show w1.heap[g]?=_
    rw [← rcl_map,← h7,List.take_append_drop,Array.toArray_toList]
    exact h3
  injection he with he1 he2 he3
  subst he1
  subst he3
  have HST:=Lib.hid (show RRow w1 g (marks B.id B.gen B.toks 0) rest from by unfold marks;simpa using hR)
  have HGB:=Lib.hid hgb
  have HFT:=Lib.hid (show ¬ Foot s g from fun hf=>by have:=HLT.out g hf;omega)
  clear hown hb1 hR hgb
  go_wp2_with fail
  go_loopw [12] (fun v wr=>∃ k:Nat,k≤n∧v = .int .i64 (k:Int)∧RRow wr g (marks B.id B.gen B.toks k) rest∧But (fun _=>False) w wr) (fun v _=>n - (intOf v).toNat)
  case atStart=>exact ⟨0,Nat.zero_le _,rfl,HST.out,HB1.out⟩
  case round =>
   obtain ⟨k,hk,rfl,hrow,hbw⟩:=hrel
   by_cases hlt:k < n
   ·have hki:(k:Int) < (n:Int):=by omega
    have hkT:k < B.toks.length:=by rw [← HN.out];exact hlt
    have hkM:k < (marks B.id B.gen B.toks k).length:=by rw [marks_length];exact hkT
    have HC:=Lib.hid (fun V (hV:But (fun j=>j=g) wr V)=>(And.intro (show V.cell? ⟨s.p,0,none⟩=some (.int .i64 B.id) from ((HM.out.new hbw).but hV (fun j hj e=>HFT.out (e ▸ hj))).cell 0) (show V.cell? ⟨s.p,1,none⟩=some (.int .u32 (B.gen:Int)) from ((HM.out.new hbw).but hV (fun j hj e=>HFT.out (e ▸ hj))).cell 1)))
    have hrd:RRow wr.drew g (marks B.id B.gen B.toks k) rest:=hrow
    have hmk:=hrd.mark hkM (marks_get hkT hkM) B.id B.gen
    rw [marks_next hkT] at hmk
    have HNX:=Lib.hid hmk
    have HK1:=Lib.hid (show wr.drew.cell? ⟨g,k * 14+1,none⟩=some (.int .i64 0) from by rw [hrd.cell hkM (by omega),marks_get hkT hkM];rfl)
    have HK2:=Lib.hid (show (wr.drew.setCell ⟨g,k * 14+1,none⟩ (.int .i64 B.id)).cell? ⟨g,k * 14+2,none⟩=some (.int .u32 1) from by
     have h1:=(Blk.set_ hrd (k * 14+1) (.int .i64 B.id)).cell (k * 14+2)
     rw [Array.getElem?_setIfInBounds_ne (by omega)] at h1
     have h2:=Blk.cell hrd (k * 14+2)
     rw [h1,← h2,hrd.cell hkM (by omega),marks_get hkT hkM]
     rfl)
    have HFZ:=Lib.hid (And.intro (Blk.frozen hrd (k * 14+1)) (Blk.frozen (Blk.set_ hrd (k * 14+1) (.int .i64 B.id)) (k * 14+2)))
    have HBW:=Lib.hid (show But (fun _=>False) w (wr.drew.setCells g (k * 14+1) [.int .i64 B.id,.int .u32 (B.gen:Int)]) from hbw.drew.trans (but_setCells g _ _ _) (fun j hj e=>by have:=HGB.out;omega))
    have HD1:=Lib.hid ((But.refl (fun j=>j=g) wr).drew)
    have HD2:=Lib.hid (((But.refl (fun j=>j=g) wr).drew).setCell (p:=⟨g,k * 14+1,none⟩) rfl (.int .i64 B.id))
    clear hrow hbw hmk hrd
    go_wp2_with fail
    refine Late.region_goes (fun V=>But (fun j=>j=g) wr V) (fun j=>j == 17) (by kernel_rfl) ?_ (fun hH=>?_)
    ·exact HD1.out
    generalize wr.drew=V0 at HK1 HK2 HFZ HNX HBW HD1 HD2 hH ⊢
    refine Late.tk 0 ?_ ?_ hH ?_;rotate_left 2
    refine Late.tk 1 ?_ ?_ hH ?_;rotate_left 2
    refine Late.tk 2 ?_ ?_ hH ?_;rotate_left 2
    refine Late.tk 3 ?_ ?_ hH ?_;rotate_left 2
    refine Late.tk 4 ?_ ?_ hH ?_;rotate_left 2
    refine Late.tk 5 ?_ ?_ hH ?_;rotate_left 2
    refine Late.tk 6 ?_ ?_ hH ?_;rotate_left 2
    refine Late.tk 7 ?_ ?_ hH ?_;rotate_left 2
    refine Late.tk 8 ?_ ?_ hH ?_;rotate_left 2
    refine Late.tk 9 ?_ ?_ hH ?_;rotate_left 2
    refine Late.tk 10 ?_ ?_ hH ?_;rotate_left 2
    refine Late.tk 11 ?_ ?_ hH ?_;rotate_left 2
    refine Late.tk 12 ?_ ?_ hH ?_;rotate_left 2
    refine Late.tk 13 ?_ ?_ hH ?_;rotate_left 2
    rotate_left
    any_goals (intro wy hSw;(try dsimp only at hSw);have k0:=(HC.out wy hSw).1;have k1:=(HC.out wy hSw).2;go_simp;try (with_reducible rfl))
    try simp only [Act.put,List.setIfInBounds_toArray,List.set_cons_zero,List.set_cons_succ]
    have c1:=HK1.out
    have f1:=HFZ.out.1
    refine Late.Goes.one (i:=14) (by kernel_rfl) (by simp only [List.getElem?_toArray,List.getElem?_cons_succ,List.getElem?_cons_zero];rfl) (fun K hK=>?_)
    clear hH
    go_simp
    clear c1 f1
    refine hK.out _ _ ?_ (fun hH=>?_)
    ·exact fun _=>HD2.out
    clear hK K
    have hH:=hH rfl
    try simp only [Act.put,List.setIfInBounds_toArray,List.set_cons_zero,List.set_cons_succ]
    refine Late.tk 15 ?_ ?_ hH ?_;rotate_left 2
    refine Late.tk 16 ?_ ?_ hH ?_;rotate_left 2
    rotate_left
    any_goals (intro wy hSw;(try dsimp only at hSw);have k0:=(HC.out wy hSw).1;have k1:=(HC.out wy hSw).2;go_simp;try (with_reducible rfl))
    try simp only [Act.put,List.setIfInBounds_toArray,List.set_cons_zero,List.set_cons_succ]
    have c1:=HK2.out
    have f1:=HFZ.out.2
    refine Late.Goes.one (i:=17) (by kernel_rfl) (by simp only [List.getElem?_toArray,List.getElem?_cons_succ,List.getElem?_cons_zero];rfl) (fun K hK=>?_)
    clear hH
    go_simp
    clear c1 f1
    change K (_:Act) (V0.setCells g (k * 14+1) [.int .i64 B.id,.int .u32 (B.gen:Int)])
    refine hK.out _ _ ?_ (fun _=>?_)
    ·exact fun h=>by cases h
    clear hK K
    try simp only [Act.put,List.setIfInBounds_toArray,List.set_cons_zero,List.set_cons_succ]
    refine Late.Goes.done (by kernel_rfl) ?_ _
    generalize V0.setCells g (k * 14+1) [.int .i64 B.id,.int .u32 (B.gen:Int)]=W5 at HNX HBW ⊢
    go_wp2_with fail
    go_roundw
    case rel=>exact ⟨k+1,by omega,by go_num,HNX.out,HBW.out⟩
    case measure=>simp [intOf];omega
   ·have hkn:k=n:=by omega
    subst hkn
    rw [HN.out,marks_done] at hrow
    have HE:=Lib.hid (And.intro (rrow_recs hrow HIS.out) hbw)
    clear hrow hbw
    go_wp2_with fail
    go_ret
    exact ⟨_,_,rfl,HE.out.1,fun b off e _=>by injection e with e;injection e with e1 e2;rw [← e1];exact HGB.out,HE.out.2⟩
theorem tokens_any (h:BM w s B T m i) (o:Ok B T m i):Calls Tryz.prog 46 #[.pointer (some ⟨s.p,0,none⟩)] w fun e w'=>∃ a c,e = .returned (.slice a B.toks.length c)∧Rec.Recs w' a (B.toks.map (tokR B.id B.gen))∧(∀ b off,a=some ⟨b,off,none⟩→0 < B.toks.length→w.heap.size≤b)∧But (fun _=>False) w w':=tokens_at h o.id o.gen
end
end Go.Proofs.YtgjofinbdigmcaaGreat.Buk
end

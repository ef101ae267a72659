/- What an iterator gives is collected in a slice of the call's own. slices.Sorted(maps.Keys(m)), the keys of uint32: a new slice of the keys, rising. All tokens, as records, in a row of the call's own. -/
import Derived.Test.YtgjofinbdigmcaaGreatG27
import Derived.Test.YtgjofinbdigmcaaGreatG11
import Derived.Test.YtgjofinbdigmcaaGreatG18
import Derived.Lib.SlKeysI
import Derived.Great.BuildSlice
import Derived.Laws.Tables
set_option linter.unusedSimpArgs false
set_option linter.unusedVariables false
set_option maxHeartbeats 2000000
set_option maxRecDepth 100000
section
namespace Go.Proofs.YtgjofinbdigmcaaGreat.Srt
open Go.Proofs.YtgjofinbdigmcaaGreat.Mem
open Go.RowKit Go.Sort Go.Shelf
def ren:Ren:=⟨fun n=>n,fun n=>match n with|24=>142|26=>22|0=>0|n=>n,fun n=>n⟩
def rec_ (fn:FuncId) (sv:Value) (B D:Nat) (st:LoopState) (pend:Option Code):Loop:=AnyZI.apRec ren fn sv B D st pend
structure Box (w0:World) (fn:FuncId) (sv:Value) (B l D:Nat) (ss:List Int) (W:World):Prop where
 box:∃ v,W.heap[B]?=some (.cells #[v] 142 (0,0))∧W.ownsRow w0.heap.size 22 1 v ss.length (ss.map enc)
 loop:W.heap[l]?=some (.loop (rec_ fn sv B D .ready none))
 defers:W.heap[D]?=some (.deferred (some []))
 below:Below w0.heap.size w0 W
theorem Box.abides (w0:World) (fn:FuncId) (sv:Value) (B l D C:Nat) (hC:w0.heap.size≤C):AbidesFrom C (Box w0 fn sv B l D):=fun s W W' row h hg hrow=>by
 have hr:∀ r,row=some r→∃ o:Obj,W.heap[r]?=some o∧o.isWalk=true:=fun r e=>(hrow r e).2
 obtain ⟨v,hv,ho⟩:=h.box
 exact ⟨⟨v,(grownBy_keeps hg hr hv rfl).trans hv,ownsRow_abides_a ho hg hr⟩,(grownBy_keeps hg hr h.loop rfl).trans h.loop,(grownBy_keeps hg hr h.defers rfl).trans h.defers,h.below.grown hg h.below.size (fun k e=>Nat.le_trans hC (hrow k e).1)⟩
theorem ne_types:142≠22:=by decide
theorem off_row {W:World} {base:Nat} {v:Value} {k:Nat} {xs:List Value} (h:W.ownsRow base 22 1 v k xs) {j:Nat} {o:Obj} (hj:W.heap[j]?=some o) (hno:∀ cur,o ≠ .cells cur 22 (0,0)):some j≠v.ownBlock:=by
 rcases ownsRow_ne_a h hj hno with e|e
 ·rw [e];simp
 ·exact fun e'=>e e'.symm
theorem box_no (v:Value):∀ cur,Obj.cells #[v] 142 (0,0) ≠ .cells cur 22 (0,0):=fun cur e=>ne_types (Obj.cells.inj e).2.1
theorem round_in (m:Nat) (w0:World) (fn:FuncId) (sv:Value) (B l D:Nat) (hBl:B≠l) (hDl:D≠l) (hDB:D≠B) (h0B:w0.heap.size≤B) (h0l:w0.heap.size≤l)
  (N:Nat) (hN:N≤1000000) (ss:List Int) (x:Int) (W:World) (h:Box w0 fn sv B l D ss W) (hlen:ss.length < N) :
  YieldAt Fence.wide m Tryz.prog l #[enc x] W fun e W'=>e = .returned (.bool true)∧Box w0 fn sv B l D (ss++[x]) W'∧KeepsWalks W W':=by
 obtain ⟨v,hv,hrow⟩:=h.box
 refine ⟨fn,#[.slice none 0 0,sv,.pointer (some ⟨B,0,none⟩),undef,.slice none 0 0,undef,sv,enc x,undef,undef,undef,undef,undef],AnyZI.apAssign ren,AnyZI.apBody ren,by simpa [rec_,AnyZI.apRec] using run_yield (P:=Tryz.prog) (args := #[enc x]) h.loop rfl,roundIn_of_wpIn trivial ?_⟩
 have hl:l < W.heap.size:=(Array.getElem?_eq_some_iff.1 h.loop).1
 have hbr:=run_beginRound (P:=Tryz.prog) h.loop rfl
 obtain ⟨i0,hi,hz0,hz1,hz2⟩:=info_parts (show (Tryz.prog.info? 22).map (fun i=>(i.zero,i.size,i.bytes))=some (some (.int .u32 0),1,4) from by kernel_rfl)
 have hmx:maxLen=9223372036854775807:=rfl
 obtain ⟨W2,hW2⟩:∃ W2,W.putObj l (.loop { rec_ fn sv B D .ready none with state := .busy })=W2:=⟨_,rfl⟩
 rw [hW2] at hbr
 have hg2:W.grownBy W2 (some l):=by rw [← hW2];exact grownBy_putObj_a _ _ _
 have hk2:KeepsWalks W W2:=by rw [← hW2];exact KeepsWalks.putObj _ h.loop rfl
 have hv2:W2.heap[B]?=some (.cells #[v] 142 (0,0)):=by rw [← hW2];exact (World.putObj_heap_other hBl).trans hv
 have hK2:W2.heap[D]?=some (.deferred (some [])):=by rw [← hW2];exact (World.putObj_heap_other hDl).trans h.defers
 have hL2:W2.heap[l]?=some (.loop { rec_ fn sv B D .ready none with state := .busy }):=by rw [← hW2];exact World.putObj_heap_same hl
 have hrow2:W2.ownsRow w0.heap.size 22 1 v ss.length (ss.map enc):=hrow.kept hg2 (ownsRow_ne_a hrow h.loop (fun cur e=>by cases e))
 have hb2:Below w0.heap.size w0 W2:=h.below.grown hg2 h.below.size (fun k e=>by cases e;exact h0l)
 obtain ⟨hc2,hf2⟩:=cell_of_box_a hv2
 have hlt2:B < W2.heap.size∧l < W2.heap.size∧D < W2.heap.size:=⟨(Array.getElem?_eq_some_iff.1 hv2).1,(Array.getElem?_eq_some_iff.1 hL2).1,(Array.getElem?_eq_some_iff.1 hK2).1⟩
 clear hW2
 have r24:ren.t 24=142:=rfl
 have r26:ren.t 26=22:=rfl
 have r0:ren.t 0=0:=rfl
 unfold AnyZI.apAssign
 simp only [r26]
 gi_wp2_with gi_round_op_a
 unfold AnyZI.apBody
 simp only [r24,r26,r0]
 gi_wp2_with (first
  | (gi_at_builtin;refine wpListIn_append_own _ rfl _ _ 142 rfl w0.heap.size 22 i0 (.int .u32 0) 1 4 Tryz.underlying142 hi hz0 hz1 hz2 rfl (by decide) _ _ _ rfl (hrow2.alloc _) ⟨W2.heap.size,0,none⟩ 1 1 [enc x] rfl rfl (cell_one_new _ _ _) (by simp [Value.oneCell',enc]) (by omega) (by omega) (by have:=hb2.size;simp;omega) ?_;intro v' w3 hown' hg3 hnil3
     have hv3:w3.heap[B]?=some (.cells #[v] 142 (0,0)):=(hg3.block B (by simp;omega) (off_row hrow2 hv2 (box_no v))).trans ((Below.heap_alloc _ _ B hlt2.1).trans hv2)
     obtain ⟨hc3,hf3⟩:=cell_of_box_a hv3
     obtain ⟨g',cap',cur',rfl,hrest⟩:∃ g' cap' cur',v' = .slice (some ⟨g',0,none⟩) (ss.length+1) cap'∧w3.heap[g']?=some (.cells cur' 22 (0,0)):=by
      rcases hown'.2 with ⟨_,h0⟩|⟨g',cap',cur',e,_,hh,_⟩
      ·exact absurd h0 (by omega)
      ·exact ⟨g',cap',cur',e,hh⟩
     go_frame)
  | gi_round_op_a)
 have hg3':(W2.alloc (.cells #[enc x] 22)).grownBy w3 v.ownBlock:=hg3
 have hL3:w3.heap[l]?=some (.loop { rec_ fn sv B D .ready none with state := .busy }):=(hg3'.block l (by simp;omega) (off_row hrow2 hL2 (fun cur e=>by cases e))).trans ((Below.heap_alloc _ _ l hlt2.2.1).trans hL2)
 have hK3:w3.heap[D]?=some (.deferred (some [])):=(hg3'.block D (by simp;omega) (off_row hrow2 hK2 (fun cur e=>by cases e))).trans ((Below.heap_alloc _ _ D hlt2.2.2).trans hK2)
 obtain ⟨w4,hw4⟩:∃ w4,w3.setCell ⟨B,0,none⟩ (.slice (some ⟨g',0,none⟩) (ss.length+1) cap')=w4:=⟨_,rfl⟩
 rw [hw4]
 have hg4:w3.grownBy w4 (some B):=by rw [← hw4];exact grownBy_setCell0_a _ _ _
 have hv4:w4.heap[B]?=some (.cells #[.slice (some ⟨g',0,none⟩) (ss.length+1) cap'] 142 (0,0)):=by rw [← hw4];exact heap_setCell_box_a _ hv3
 have hL4:w4.heap[l]?=some (.loop { rec_ fn sv B D .ready none with state := .busy }):=(hg4.block l (Array.getElem?_eq_some_iff.1 hL3).1 (fun e=>hBl (by cases e;rfl))).trans hL3
 have hK4:w4.heap[D]?=some (.deferred (some [])):=(hg4.block D (Array.getElem?_eq_some_iff.1 hK3).1 (fun e=>hDB (by cases e;rfl))).trans hK3
 have hrow4:=hown'.kept hg4 (ownsRow_ne_a hown' hv3 (box_no v))
 have hl4:l < w4.heap.size:=(Array.getElem?_eq_some_iff.1 hL4).1
 have hb3:Below w0.heap.size w0 w3:=(hb2.alloc hb2.size _).grown hg3' (by have:=hb2.size;simp;omega) (fun k e=>(hrow2.lt k e).1)
 have hb4:Below w0.heap.size w0 w4:=hb3.grown hg4 hb3.size (fun k e=>by cases e;exact h0B)
 have hk4:KeepsWalks W w4:=((hk2.trans (KeepsWalks.alloc _ _)).trans (KeepsWalks.of_grownBy hg3' (ownsRow_not_walk_a (hrow2.alloc _)))).trans (by rw [← hw4];exact KeepsWalks.setCell _ _ _)
 clear hw4
 refine ⟨_,_,run_endRound none hL4,rfl,⟨⟨_,(World.putObj_heap_other hBl).trans hv4,?_⟩,World.putObj_heap_same hl4,(World.putObj_heap_other hDl).trans hK4,hb4.grown (grownBy_putObj_a _ _ _) hb4.size (fun k e=>by cases e;exact h0l)⟩,hk4.trans (KeepsWalks.putObj _ hL4 rfl)⟩
 rw [show (ss++[x]).length=ss.length+1 from by simp,List.map_append]
 exact hrow4.kept (grownBy_putObj_a _ _ _) (ownsRow_ne_a hrow4 hL4 (fun cur e=>by cases e))
theorem collect_in (n:Nat) (hn:2≤n) (g:Nat) (lb:Array Value) (eg:∀ args w,(callFunc g args).run Tryz.prog w = .ok (.enter g args) w) (S:List Int→Prop) (N:Nat) (hN:N≤1000000) (w:World) (hseq:SeqGives Fence.wide (n - 1) Tryz.prog g lb enc S N w) :
  CallsIn Fence.wide n Tryz.prog 124 #[.slice none 0 0,.func (.func g) #[] lb] w fun e w'=>∃ (v:Value) (ss:List Int),e = .returned v∧S ss∧w'.ownsRow w.heap.size 22 1 v ss.length (ss.map enc)∧Below w.heap.size w w':=by
 refine callsIn_of_wp_marks Tryz.func124 rfl trivial ?_ rfl
 have hnt:=Tryz.ntmps124
 simp only [hnt,List.size_toArray,List.length_cons,List.length_nil,Nat.reduceAdd,Nat.reduceSub,Array.replicate_succ,Array.replicate_zero,List.push_toArray,List.append_toArray,List.nil_append,List.cons_append]
 clear hnt
 gi_wp2
 refine wpIn_rangeFunc ?_
 intro fn hfn
 obtain ⟨W0,hW0⟩:∃ W0,w.alloc (.cells #[.slice none 0 0] 142)=W0:=⟨_,rfl⟩
 have hs0:W0.heap.size=w.heap.size+1:=by rw [← hW0];simp
 have hv0:W0.heap[w.heap.size]?=some (.cells #[.slice none 0 0] 142 (0,0)):=by rw [← hW0];exact World.alloc_heap_new w _
 have hb0:Below w.heap.size w W0:=by rw [← hW0];exact (Below.refl _ w).alloc (Nat.le_refl _) _
 rw [hW0]
 obtain ⟨W1,hW1⟩:∃ W1,(W0.alloc (.deferred (some []))).alloc (.loop (rec_ fn (.func (.func g) #[] lb) w.heap.size W0.heap.size .ready none))=W1:=⟨_,rfl⟩
 have hold:∀ k,k < W0.heap.size→W1.heap[k]?=W0.heap[k]?:=fun k hk=>by
  rw [← hW1];exact (Below.heap_alloc _ _ k (by simp;omega)).trans (Below.heap_alloc _ _ k hk)
 have hb1:Below w.heap.size w W1:=by rw [← hW1];exact (hb0.alloc hb0.size _).alloc (by have:=hb0.size;simp;omega) _
 have hs1:W1.heap.size=W0.heap.size+2:=by rw [← hW1];simp
 have hM:Box w fn (.func (.func g) #[] lb) w.heap.size (W0.heap.size+1) W0.heap.size [] W1 :=
  ⟨⟨_,(hold w.heap.size (by omega)).trans hv0,⟨rfl,.inl ⟨rfl,rfl⟩⟩⟩,
  by rw [← hW1];have:=World.alloc_heap_new (W0.alloc (.deferred (some []))) (.loop (rec_ fn (.func (.func g) #[] lb) w.heap.size W0.heap.size .ready none));rwa [World.size_alloc] at this,
  by rw [← hW1];exact (Below.heap_alloc _ _ _ (by simp)).trans (World.alloc_heap_new W0 _),hb1⟩
 refine ⟨W0.heap.size+1,[{ target := .collected W0.heap.size,args := #[] }],W1,{ target := .fn (.func g) lb,args := #[.func (.yield (W0.heap.size+1)) #[] #[]] },W1,g,
  #[.func (.yield (W0.heap.size+1)) #[] #[]]++lb,W1,?_,?_,?_,?_,fun _=>(by omega),?_⟩
 ·rw [← hW1];exact run_enterLoop_outer _ _ _ _ _
 ·simp [resolve,go_sem]
 ·intro f' hf';exact trivial
 ·simp [invoke,go_sem,eg]
 ·refine (hseq (W0.heap.size+1) (Box w fn (.func (.func g) #[] lb) w.heap.size (W0.heap.size+1) W0.heap.size) W1 hb1 (Box.abides _ _ _ _ _ _ _ hb1.size)
   (fun pre x W hJ hl=>round_in (n - 1 - 1) w fn _ w.heap.size (W0.heap.size+1) W0.heap.size (by omega) (by omega) (by omega) (Nat.le_refl _) (by omega) N hN pre x W hJ hl) hM).mono ?_
  rintro e W2 ⟨⟨v0,rfl⟩,ss,hS,h2⟩
  obtain ⟨v,hv,hrow⟩:=h2.box
  have hend:=run_endLoop (P:=Tryz.prog) h2.loop (by simp [rec_,AnyZI.apRec])
  obtain ⟨W3,hW3⟩:∃ W3,W2.putObj (W0.heap.size+1) (.loop { rec_ fn (.func (.func g) #[] lb) w.heap.size W0.heap.size .ready none with state := .exhausted })=W3:=⟨_,rfl⟩
  rw [hW3] at hend
  have hg3:W2.grownBy W3 (some (W0.heap.size+1)):=by rw [← hW3];exact grownBy_putObj_a _ _ _
  have hv3:W3.heap[w.heap.size]?=some (.cells #[v] 142 (0,0)):=by rw [← hW3];exact (World.putObj_heap_other (by omega)).trans hv
  have hK3:W3.heap[W0.heap.size]?=some (.deferred (some [])):=by rw [← hW3];exact (World.putObj_heap_other (by omega)).trans h2.defers
  have hrow3:=hrow.kept hg3 (ownsRow_ne_a hrow h2.loop (fun cur e=>by cases e))
  have hb3:Below w.heap.size w W3:=h2.below.grown hg3 h2.below.size (fun k e=>by cases e;omega)
  obtain ⟨hc3,hf3⟩:=cell_of_box_a hv3
  clear hW3
  refine ⟨none,W3,hend,?_⟩
  gi_wp2
  rw [← hs0]
  refine ⟨by simp,.inl ⟨_,_,rfl,run_takeDeferred hK3,?_⟩⟩
  exact ⟨_,results_tmp rfl _ _ _,v,ss,rfl,hS,hrow3.kept (grownBy_putObj_a _ _ _) (ownsRow_ne_a hrow3 hK3 (fun cur e=>by cases e)),hb3.grown (grownBy_putObj_a _ _ _) hb3.size (fun k e=>by cases e;omega)⟩
end Go.Proofs.YtgjofinbdigmcaaGreat.Srt
end
section
namespace Go.Proofs.YtgjofinbdigmcaaGreat.Srt
open Go.Proofs.YtgjofinbdigmcaaGreat.Mem
open Go.RowKit Go.Sort Go.Shelf
def it:Nat:=108
theorem gather_any {g:Nat} {lb:Array Value} (eg:∀ args w,(callFunc g args).run Tryz.prog w = .ok (.enter g args) w) (S:List Int→Prop) (N:Nat) (hN:N≤1000000) (w:World) (hseq:SeqGives Fence.wide 4 Tryz.prog g lb enc S N w) :
  Calls Tryz.prog 106 #[.func (.func g) #[] lb] w fun e w'=>∃ (v:Value) (ss:List Int),e = .returned v∧S ss∧w'.ownsRow w.heap.size 22 1 v ss.length (ss.map enc)∧Below w.heap.size w w':=by
 have HC:=Lib.hid (callsIn_wide.1 (collect_in 5 (by omega) g lb eg S N hN w hseq))
 clear hseq
 go_enter Tryz.func106,Tryz.ntmps106
 go_wp2_with (first|(go_at_call 124;refine HC.out.mono ?_;rintro e w1 ⟨v,ss,rfl,hS,hr,hb⟩))
 go_ret
 exact ⟨v,ss,rfl,hS,hr,hb⟩
theorem sorted_any {H:Type} {R:Value→Option (DataW H × List MemPlace)} {b nn:Nat} {D:DataW H} {w:World} (hown:w.ownsMap Tryz.prog 22 R b nn D) (hs:Maps.size D≤1000000) :
  Calls Tryz.prog 90 #[.func (.func it) #[] #[.pointer (some ⟨w.heap.size,0,none⟩)]] (w.alloc (.cells #[.map (some b)] 98)) fun e w'=>∃ (v:Value) (ss:List Int),e = .returned v∧All D ss ∧
   w'.ownsRow w.heap.size 22 1 v ss.length ((up ss).map enc)∧But (fun _=>False) w w':=by
 have hbl:=hown.lt
 have hseq:SeqGives Fence.wide 4 Tryz.prog it #[.pointer (some ⟨w.heap.size,0,none⟩)] enc (All D) (Maps.size D) (w.alloc (.cells #[.map (some b)] 98)):=fun l J W hW hJ hY h0=>by
  have hown':W.ownsMap Tryz.prog 22 R b nn D:=by
   obtain ⟨es,clock,hb,F,hs,hD⟩:=hown
   exact ⟨es,clock,(hW.block b (by simp;omega)).trans ((Below.heap_alloc _ _ b hbl).trans hb),F,hs,hD⟩
  have hm:W.cell? ⟨w.heap.size,0,none⟩=some (.map (some b)):=(hW.cell (p:=⟨w.heap.size,0,none⟩) (by simp)).trans (by simp)
  exact iter_in 4 (by omega) l w.heap.size b nn D J hY W hJ hm hown' h0
 have HG:=Lib.hid (gather_any (g:=it) (enters_of Tryz.func108 (by kernel_rfl) rfl) (All D) (Maps.size D) hs _ hseq)
 have HB:=Lib.hid ((But.refl (fun _=>False) w).alloc (.cells #[.map (some b)] 98))
 obtain ⟨B,hB⟩:∃ B,B=w.heap.size:=⟨_,rfl⟩
 rw [← hB] at HG ⊢
 have hB1:(w.alloc (.cells #[.map (some b)] 98)).heap.size=B+1:=by simp [hB]
 generalize w.alloc (.cells #[.map (some b)] 98)=w1 at HG HB hB1
 have HB1:=Lib.hid (And.intro hB hB1)
 clear hseq hown hbl hB hB1
 unfold it at HG ⊢
 go_enter Tryz.func90,Tryz.ntmps90
 go_wp2_with fail
 refine HG.out.mono ?_
 rintro e w2 ⟨v,ss,rfl,hA,hr,hb⟩
 have HA:=Lib.hid hA
 have HR:=Lib.hid hr
 have HB2:=Lib.hid ((HB.out).trans' (But.of_new hb))
 clear hb hA
 rcases hr.2 with ⟨rfl,hz⟩|⟨gb,cap,cur,rfl,hbase,hgb,r1,r2,r3,r4⟩
 ·have HN:=Lib.hid (sort_none none 0)
  have HZ:=Lib.hid hz
  clear hr hz
  go_wp2_with (first|(go_at_call 107;refine (HN.out _).mono ?_;rintro e w3 ⟨rfl,rfl⟩))
  go_ret
  obtain rfl:ss=[]:=List.eq_nil_of_length_eq_zero HZ.out
  exact ⟨_,[],rfl,HA.out,⟨by simp [up_length],.inl ⟨rfl,rfl⟩⟩,HB2.out⟩
 ·have hH:=holds_own (zs:=ss) hgb (by simpa using r4)
  have hgl:gb < w2.heap.size:=(Array.getElem?_eq_some_iff.1 hgb).1
  have HS:=Lib.hid (sort_any ss w2 gb 0 cap hH hgl (by have:=HA.out.len;omega))
  have HF:=Lib.hid (fun (w':World) (h:At enc w2 gb 0 (up ss).toArray w')=>own_sorted (base:=B) (by have:=HB1.out.2;omega) hgb r1 r2 r3 h)
  have HGE:=Lib.hid (show B≤gb from by have:=HB1.out.2;omega)
  clear hr hgb hbase r1 r2 r3 r4 hH hgl
  go_wp2_with (first|(go_at_call 107;refine HS.out.mono ?_;rintro e w3 ⟨rfl,hA3⟩;have HA3:=Lib.hid (HF.out _ hA3);clear hA3))
  go_ret
  have h5:=HA3.out
  refine ⟨_,ss,rfl,HA.out,?_,HB2.out.trans h5.2 (fun i hi e=>by have:=HGE.out;have:=HB1.out.1;omega)⟩
  exact h5.1
end Go.Proofs.YtgjofinbdigmcaaGreat.Srt
end
section
namespace Go.Proofs.YtgjofinbdigmcaaGreat.Rgt
open Go.Proofs.YtgjofinbdigmcaaGreat.Mem
open Go.ChangeShapes Go.WideShapes Go.ChangeAt Go.RowKit
def rcells (x:Tok):List Value:=[.int .i64 5,.int .i64 0,.int .u32 1,.int .i64 0,.int .i64 0,.int .i64 0,.int .u64 0,.int .u32 (x.s:Int),.int .i64 x.r,.int .u64 (x.k:Int),.string ⟨#[]⟩,.string ⟨#[]⟩,.int .u64 0,.int .u64 0]
theorem rcells_one (x:Tok):∀ u ∈ rcells x,u.oneCell'=true:=by simp [rcells,Value.oneCell']
theorem rec_info:(Tryz.prog.info? 35).map (fun i=>(i.zero,i.size,i.bytes))=some (some (.agg #[.int .i64 0,.int .i64 0,.int .u32 0,.int .i64 0,.int .i64 0,.int .i64 0,.int .u64 0,.int .u32 0,.int .i64 0,.int .u64 0,.string ⟨#[]⟩,.string ⟨#[]⟩,.int .u64 0,.int .u64 0]),14,128):=by kernel_rfl
theorem rec_size:(Tryz.prog.info? 35).map (·.size)=some 14:=by kernel_rfl
def rcl (l:List Tok):List Value:=l.flatMap rcells
theorem rcl_snoc (l:List Tok) (x:Tok):rcl (l++[x])=rcl l++rcells x:=by simp [rcl]
theorem sees_rec (w:World) (x:Tok) (e:TypeId) (fr:Nat × Nat) (g:Nat) (hg:g=w.heap.size):Sees (w.alloc (.cells (rcells x).toArray e fr)) 14 (.slice (some ⟨g,0,none⟩) 1 1) 1 (rcells x):=by
 subst hg
 refine .inr ⟨_,_,rfl,by simp [rcells],fun j u hu=>?_⟩
 refine ⟨by simp,?_⟩
 rw [add_none,Nat.zero_add,World.cell?_alloc_mark]
 simpa using hu
def serials (T:List Tok):List Int:=T.map fun x=>(x.s:Int)
section
variable {w w':World} {p mb:Nat} {T:List Tok}
theorem key_nat {n:Nat} {D:DataW Tk} (hm:w.ownsMap Tryz.prog 22 tokElem mb n D) {x:Int} (h:Maps.has D (.int .u32 x)=true):∃ s:Nat,x=(s:Int):=by
 obtain ⟨es,rfl,hko⟩:=hm.keysOf
 rw [Maps.has_eq,List.any_eq_true] at h
 obtain ⟨q,hq,hs⟩:=h
 obtain ⟨v,hv⟩:=hko q hq
 obtain ⟨y,_,hy,hw⟩:=Maps.keyOf_int_inv Tryz.underlying22 hv
 rw [hy] at hs
 have hxy:y=x:=by simpa [Lit.sameKey] using hs
 have:0≤y∧y≤4294967295:=by simpa [Lit.wf,IntKind.min,IntKind.max,IntKind.signed,IntKind.bits] using hw
 exact ⟨x.toNat,by omega⟩
theorem look_has {s:Nat} {T:List Tok} (hT:Ris T):(look s T).isSome=true ↔ ∃ x ∈ T,x.s=s:=by
 constructor
 ·intro h
  obtain ⟨x,hx⟩:=Option.isSome_iff_exists.1 h
  exact ⟨x,look_mem hx⟩
 ·rintro ⟨x,hx,rfl⟩
  cases h:look x.s T with
  | none=>exact absurd rfl (look_none h x hx)
  | some y=>rfl
theorem serials_rise {T:List Tok} (hT:Ris T):(serials T).Pairwise (fun a b=>a < b):=by
 unfold serials
 rw [List.pairwise_map]
 exact hT.imp (fun h=>by omega)
theorem keys_are {n:Nat} {D:DataW Tk} (hm:w.ownsMap Tryz.prog 22 tokElem mb n D) (ht:Tells D T) (hT:Ris T) {ss:List Int} (hA:Srt.All D ss):Srt.up ss=serials T:=by
 have hr:=serials_rise hT
 have hp:ss.Perm (serials T):=by
  refine (List.perm_ext_iff_of_nodup hA.came.1 (hr.imp (fun h=>by omega))).2 fun x=>?_
  rw [hA.came.2 x]
  simp only [and_true]
  unfold serials
  rw [List.mem_map]
  constructor
  ·intro h
   obtain ⟨s,rfl⟩:=key_nat hm h
   rw [ht.has] at h
   obtain ⟨y,hy,rfl⟩:=(look_has hT).1 h
   exact ⟨y,hy,rfl⟩
  ·rintro ⟨y,hy,rfl⟩
   rw [ht.has]
   exact (look_has hT).2 ⟨y,hy,rfl⟩
 have h1:Srt.up ss=Srt.up (serials T):=mergeSort_of_perm_i hp
 rw [h1]
 unfold Srt.up
 exact List.mergeSort_of_pairwise (hr.imp (fun h=>by simp;omega))
theorem look_of_mem:∀ {T:List Tok},Ris T→∀ {x:Tok},x ∈ T→look x.s T=some x
 | [],_,_,h=>(by cases h)
 | y :: T,hT,x,h=>by
  have hp:=List.pairwise_cons.1 hT
  unfold look
  rcases List.mem_cons.1 h with rfl|h
  ·rw [if_pos rfl]
  ·have:=hp.1 x h
   rw [if_neg (by omega)]
   exact look_of_mem hp.2 h
theorem RAt.look1 (h:RAt w p mb T) {x:Tok} (hx:x ∈ T) :
  (Instr.lookup 98 (.map (some mb)) (.int .u32 (x.s:Int)) false).run Tryz.prog w = .ok (.agg #[.int .i64 x.r,.int .u64 (x.k:Int)]) w:=by
 obtain ⟨n,D,hm,hn,ht⟩:=h.map
 have hs:=(h.good.ok x hx).s
 have hl:=look_of_mem h.good.ris hx
 obtain ⟨v,ps,hrun,hv⟩:=hm.lookup law Tryz.underlying98 (zeroTok w) (tokElem_is 0 0) (key32 hs)
 rw [hrun]
 rw [ht.key x.s x hl] at hv
 have e:=hv
 unfold tokElem at e
 split at e
 ·simp only [Option.some.injEq,Prod.mk.injEq,DataW.held.injEq] at e
  obtain ⟨⟨rfl,rfl⟩,_⟩:=e
  rfl
 ·cases e
theorem rgt_keys (h:RAt w p mb T):Calls Tryz.prog 90 #[.func (.func Srt.it) #[] #[.pointer (some ⟨w.heap.size,0,none⟩)]] (w.alloc (.cells #[.map (some mb)] 98)) fun e w' =>
  ∃ a c,e = .returned (.slice a T.length c)∧w'.ownsRow w.heap.size 22 1 (.slice a T.length c) T.length ((serials T).map Srt.enc)∧But (fun _=>False) w w':=by
 obtain ⟨n,D,hm,hn,ht⟩:=h.map
 have hs:=h.good.len
 refine (Srt.sorted_any hm (by rw [ht.size];omega)).mono ?_
 rintro e w' ⟨v,ss,rfl,hA,hr,hb⟩
 have hk:=keys_are hm ht h.good.ris hA
 have hl:ss.length=T.length:=by
  have:=Srt.up_length ss
  rw [hk] at this
  simpa [serials] using this.symm
 rw [hk,hl] at hr
 rcases hr.2 with ⟨rfl,h0⟩|⟨g,cap,cur,rfl,_⟩
 ·exact ⟨none,0,by rw [h0],by rw [h0] at hr ⊢; exact hr,hb⟩
 ·exact ⟨_,cap,rfl,hr,hb⟩
theorem rgt_all (h:RAt w p mb T):Calls Tryz.prog 68 #[.pointer (some ⟨p,0,none⟩)] w fun e w'=>∃ a c,e = .returned (.slice a T.length c)∧w'.ownsRow w.heap.size 35 14 (.slice a T.length c) T.length (rcl T)∧But (fun _=>False) w w':=by
 obtain ⟨D,hm,ht⟩:=h.tight
 have c0:w.cell? ⟨p,0,none⟩=some (.map (some mb)):=h.blk.cell 0
 have hl:=hm.len Tryz.underlying98
 rw [ht.size] at hl
 obtain ⟨i0,hi0,hz⟩:=Option.map_eq_some_iff.1 rec_info
 simp only [Prod.mk.injEq] at hz
 obtain ⟨hz0,hz1,hz2⟩:=hz
 have hlen:=h.good.len
 have H:=Lib.hid h
 have HT:=Lib.hid ht
 obtain ⟨n,hn⟩:∃ n,n=T.length:=⟨_,rfl⟩
 rw [← hn] at hl hlen hm ⊢
 have HN:=Lib.hid hn
 have HM:=Lib.hid hm
 clear h hm ht hn
 go_enter Tryz.func68,Tryz.ntmps68
 go_wp2_with (first
  | (at_make;refine wpList_make_own _ rfl _ _ 62 rfl w.heap.size 35 i0 _ 14 Tryz.underlying62 hi0 hz0 hz1 .i64 .i64 (n:Int) n rfl rfl (by omega) (by rw [hz2];omega) (by unfold maxLen;omega) (Nat.le_refl _) ?_;intro w1 ho1 hg1
     have HB1:=Lib.hid (show But (fun _=>False) w w1 from (But.of_grown hg1).mono (fun j hj h=>by cases h))
     have HO1:=Lib.hid ho1
     have H1:=Lib.hid (H.out.new HB1.out)
     have c1:w1.cell? ⟨p,0,none⟩=some (.map (some mb)):=H1.out.blk.cell 0
     have HK:=Lib.hid (Srt.keys_call mb w1)
     have HS:=Lib.hid (rgt_keys H1.out)
     rw [← HN.out] at HS
     clear c0 hl ho1 hg1)
  | (go_at_call 91;refine HK.out.mono ?_;rintro e w2 ⟨rfl,rfl⟩;clear c1)
  | (go_at_call 90;refine HS.out.mono ?_;rintro e w3 ⟨a,ca,rfl,hr,hb⟩
     have HR:=Lib.hid hr
     have HB3:=Lib.hid hb
     clear hr hb))
 have HB:=Lib.hid (HB1.out.trans' HB3.out)
 have HR0:=Lib.hid (show w3.ownsRow w.heap.size 22 1 (.slice a n ca) n ((serials T).map Srt.enc) from by
  have h1:=HR.out
  refine ⟨h1.1,?_⟩
  rcases h1.2 with h2|⟨g,cap,cur,e,hg,r⟩
  ·exact .inl h2
  ·exact .inr ⟨g,cap,cur,e,by have:=HB1.out.size;omega,r⟩)
 have HO3:=Lib.hid (ownsRow_but HO1.out HB3.out (fun _ _ h=>h))
 clear HR HB3 HO1 HB1 HS HK H1
 go_loopw [3,20] (fun v x wr=>∃ (k:Nat) (g c:Nat),k≤n∧x = .int .i64 (k:Int)∧v = .slice (some ⟨g,0,none⟩) k c∧wr.ownsRow w.heap.size 35 14 (.slice (some ⟨g,0,none⟩) k c) k (rcl (T.take k))∧wr.ownsRow w.heap.size 22 1 (.slice a n ca) n ((serials T).map Srt.enc)∧But (fun _=>False) w wr) (fun _ x _=>n - (intOf x).toNat)
 case atStart=>exact ⟨0,_,_,by omega,rfl,rfl,HO3.out,HR0.out,HB.out⟩
 case round =>
  obtain ⟨k,r,c,hk,rfl,rfl,hO,hR,hB⟩:=hrel
  have HO:=Lib.hid hO
  have HRk:=Lib.hid hR
  have HBk:=Lib.hid hB
  by_cases hlt:k < n
  ·have hkT:k < T.length:=by rw [← HN.out];exact hlt
   obtain ⟨gk,rfl,hgk⟩:∃ gk,a=some ⟨gk,0,none⟩∧gk < wr.heap.size:=by
    rcases hR.2 with ⟨_,h0⟩|⟨g,cap,cur,e,hg,hh,_⟩
    ·omega
    ·injection e with e
     exact ⟨g,e,(Array.getElem?_eq_some_iff.1 hh).1⟩
   obtain ⟨x,hx⟩:∃ x,x=T[k]:=⟨_,rfl⟩
   have ck:wr.cell? ⟨gk,k,none⟩=some (.int .u32 (x.s:Int)):=by
    have h1:=hR.cellAt k (by omega)
    (try rw [Nat.zero_add] at h1)
    rw [h1,hx]
    simp [serials,Srt.enc,hkT]
   have hW:=H.out.new hB
   have c0:wr.cell? ⟨p,0,none⟩=some (.map (some mb)):=hW.blk.cell 0
   have lk:=hW.look1 (x:=x) (by rw [hx];exact List.getElem_mem hkT)
   have htk:T.take (k+1)=T.take k++[x]:=by rw [hx];exact List.take_succ_eq_append_getElem hkT
   have HTK:=Lib.hid htk
   have HO2:=Lib.hid (ownsRow_alloc hO (.cells #[.int .i64 x.r,.int .u64 (x.k:Int)] 112))
   have hsz:=hB.size
   clear hO hR hB hW htk hkT hx
   go_wp2_with (at_builtin;refine wpList_append_onto rfl (.tmp 30) (.tmp 37) _ rfl w.heap.size 35 i0 _ 14 128 Tryz.underlying62 hi0 hz0 hz1 hz2 rfl (by omega) (.slice (some ⟨r,0,none⟩) k c) k (rcl (T.take k)) rfl (ownsRow_alloc HO2.out _) (.slice (some ⟨wr.heap.size+1,0,none⟩) 1 1) 1 (rcells x) rfl (sees_rec _ x _ _ _ (by simp)) (rcells_one x) (by simp only [maxLen];omega) (by omega) (by simp;omega) ?_;intro v5 w5 ho5 hon5)
   rw [← rcl_snoc,← HTK.out] at ho5
   obtain ⟨g5,c5,rfl⟩:∃ g c,v5 = .slice (some ⟨g,0,none⟩) (k+1) c:=by
    rcases ho5.2 with ⟨_,h⟩|⟨g,cap,cur,hv,_⟩
    ·omega
    ·exact ⟨g,cap,hv⟩
   have hrl:=(HO.out.lt r rfl).2
   have hrg:=(HO.out.lt r rfl).1
   have hon:=(hon5.of_alloc (fun j hj=>by
    have hj:r=j:=by simpa [Value.ownBlock] using hj
    simp;omega)).of_alloc (fun j hj=>by
    have hj:r=j:=by simpa [Value.ownBlock] using hj
    omega)
   have hne:r≠gk:=by
    rintro rfl
    rcases HO.out.2 with ⟨h1,_⟩|⟨g,cap,cur,h1,_,h3,_⟩
    ·cases h1
    ·rcases HRk.out.2 with ⟨h4,h5⟩|⟨g',cap',cur',h4,_,h6,_⟩
     ·cases h4
     ·injection h1 with h1
      injection h4 with h4
      cases h1
      cases h4
      rw [h3] at h6
      simp only [Option.some.injEq,Obj.cells.injEq] at h6
      exact absurd h6.2.1 (by decide)
   have hr5:=ownsRow_but HRk.out hon.but (fun j hj e=>by
    have hj:gk=j:=by simpa [Value.ownBlock] using hj
    have e:j=r:=by simpa [Value.ownBlock] using e
    omega)
   have HX:=Lib.hid (And.intro ho5 (And.intro hr5 (HBk.out.trans hon.but (fun j hj e=>by
    have e:j=r:=by simpa [Value.ownBlock] using e
    omega))))
   clear ho5 hon5 hon hr5 hne ck c0 lk
   go_wp2
   go_roundw
   case rel=>exact ⟨k+1,g5,c5,by omega,by go_num,rfl,HX.out.1,HX.out.2.1,HX.out.2.2⟩
   case measure=>(simp [intOf] <;> omega)
  ·have hkn:k=n:=by omega
   clear hO hR hB
   go_wp2
   go_ret
   refine ⟨some ⟨r,0,none⟩,c,by rw [hkn];rfl,?_,HBk.out⟩
   have h1:=HO.out
   rw [hkn] at h1
   rwa [show T.take n=T from by rw [HN.out,List.take_length]] at h1
end
end Go.Proofs.YtgjofinbdigmcaaGreat.Rgt
end

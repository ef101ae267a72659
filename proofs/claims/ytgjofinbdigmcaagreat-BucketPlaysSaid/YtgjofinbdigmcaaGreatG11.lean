/- A table of tokens in memory: its block, its map; what the map tells. Contracts of a table's calls. Numbers as bytes, the lowest byte first: what is put, what is read, and that what was put is read. Contracts of pack.Put, pack.PutText and the reference's Put and Text: what they append to a row of the caller's own. Contracts of pack.PutText and of the reference's Put and Text: what they append to a row of the caller's own. Contracts of pack's reader: New, Number, Text, Left, Short: what they answer, and what bytes are left behind them. Contracts of the reference's reader: they answer as the reader of layer 2 does. The reference's Text answers as the reader's of layer 2 does. Words on layer 2's readers that the layers above it use. (These stand in PackUp, PackPuts, PackBack and PackReads too: import those or this.) -/
import Derived.Test.YtgjofinbdigmcaaGreatG10
import Derived.Test.YtgjofinbdigmcaaGreatG02
import Derived.Maps.OwnSet
import Derived.Deep.Slices
import Derived.Deep.Fields
import Derived.Test.YtgjofinbdigmcaaGreatG03
import Derived.Lib.Hide
import Derived.WalkKit
import Derived.Test.YtgjofinbdigmcaaGreatG01
import Derived.Test.YtgjofinbdigmcaaGreatProg
import Derived.ProofKit
import Derived.Below
import Derived.Outline
import Derived.WalkSpells
import Derived.WalkLawsBesides
import Derived.LoopTactic
import Derived.WalkMore
import Derived.ScopeJumps
import Derived.Deep.QuietTactic
import Derived.BigQuiet
set_option linter.unusedSimpArgs false
set_option linter.unusedVariables false
set_option maxHeartbeats 1000000
set_option maxRecDepth 100000
section
namespace Go.Proofs.YtgjofinbdigmcaaGreat.Rgt
open Go.Proofs.YtgjofinbdigmcaaGreat.Mem
open Go.ChangeShapes Go.WideShapes Go.ChangeAt Go.RowKit
open Go.Maps (Keyed)
open Go.ChangeMaps Go.MapKept
abbrev Tk:=Int × Int
def tcells (r:Int) (k:Nat):Array Value := #[.int .i64 r,.int .u64 (k:Int)]
def tokElem:Value→Option (DataW Tk × List MemPlace)
 | .agg ⟨[.int .i64 r,.int .u64 k]⟩=>some (.held (r,k),[])
 | _=>none
theorem tokElem_is (r:Int) (k:Nat):tokElem (.agg (tcells r k))=some (.held (r,(k:Int)),[]):=rfl
theorem law:Keyed Tryz.prog 22:=Maps.int_keyed Tryz.underlying22
theorem wf32 {s:Nat} (h:s < 4294967296):(Lit.int .u32 (s:Int)).wf=true:=by
 simp [Lit.wf,IntKind.min,IntKind.max,IntKind.signed,IntKind.bits];omega
theorem key32 {s:Nat} (h:s < 4294967296):keyOf Tryz.prog 22 (.int .u32 (s:Int))=some (.int .u32 (s:Int)):=Maps.keyOf_int_mk Tryz.underlying22 (wf32 h)
structure Tells (D:DataW Tk) (T:List Tok):Prop where
 has:∀ s:Nat,Maps.has D (.int .u32 (s:Int))=(look s T).isSome
 key:∀ (s:Nat) x,look s T=some x→∀ z,D.atKey (.int .u32 (s:Int)) z = .held (x.r,(x.k:Int))
 size:Maps.size D=T.length
theorem lit_ne {a b:Nat} (h:a≠b):(Lit.int .u32 (a:Int)) ≠ .int .u32 (b:Int):=by
 intro he
 injection he with _ he
 omega
theorem tells_new:Tells (.map []) []:=⟨fun s=>rfl,fun s x h=>(by cases h),rfl⟩
theorem Tells.put {D:DataW Tk} {T:List Tok} (h:Tells D T) (hm:Maps.IsMap D) (ht:Maps.Tidy D) (hT:Ris T) (x:Tok):Tells (D.put (.int .u32 (x.s:Int)) (.held (x.r,(x.k:Int)))) (put x T) where
 has s:=by
  rw [look_put x hT]
  by_cases hs:s=x.s
  ·rw [if_pos hs,hs,Maps.has_put_same (k := .int .u32 (x.s:Int)) hm trivial];rfl
  ·rw [if_neg hs,Maps.has_put_other (lit_ne hs),h.has]
 key s y hy z:=by
  rw [look_put x hT] at hy
  by_cases hs:s=x.s
  ·rw [if_pos hs] at hy
   injection hy with hy
   subst hy
   rw [hs,Maps.atKey_put_same (k := .int .u32 (x.s:Int)) hm trivial]
  ·rw [if_neg hs] at hy
   rw [Maps.atKey_put_other (lit_ne hs),h.key s y hy]
 size:=by
  rw [Maps.size_put ht,h.has,h.size,len_put x hT]
theorem Tells.del {D:DataW Tk} {T:List Tok} (h:Tells D T) (ht:Maps.Tidy D) (hT:Ris T) (s:Nat):Tells (D.del (.int .u32 (s:Int))) (del s T) where
 has x:=by
  rw [look_del hT]
  by_cases hs:x=s
  ·rw [if_pos hs,hs,Maps.has_del_same];rfl
  ·rw [if_neg hs,Maps.has_del_other (lit_ne hs),h.has]
 key x y hy z:=by
  rw [look_del hT] at hy
  by_cases hs:x=s
  ·rw [if_pos hs] at hy;cases hy
  ·rw [if_neg hs] at hy
   rw [Maps.atKey_del_other (lit_ne hs),h.key x y hy]
 size:=by
  have h1:=Maps.size_del (k := .int .u32 (s:Int)) ht
  have h2:=len_del s T
  rw [h.has,h.size] at h1
  omega
structure RAt (w:World) (p mb:Nat) (T:List Tok):Prop where
 blk:Blk w p 100 #[.map (some mb)]
 map:∃ n D,w.ownsMap Tryz.prog 22 tokElem mb n D∧n≤1000∧Tells D T
 good:Good T
theorem ownsMap_but {H:Type} {P:Program} {k:TypeId} {R:Value→Option (DataW H × List MemPlace)} {w w':World} {b n:Nat} {D:DataW H} {T:Nat→Prop} (h:w.ownsMap P k R b n D) (hb:But T w w') (hg:¬ T b):w'.ownsMap P k R b n D:=by
 have hlt:=h.lt
 obtain ⟨es,clock,hh,r⟩:=h
 exact ⟨es,clock,(hb.block b hlt hg).trans hh,r⟩
theorem ownsMap_tight {H:Type} {P:Program} {k:TypeId} {R:Value→Option (DataW H × List MemPlace)} {w:World} {b n:Nat} {D:DataW H} (h:w.ownsMap P k R b n D):w.ownsMap P k R b (Maps.size D) D:=by
 obtain ⟨es,clock,hh,F,hs,rfl⟩:=h
 exact ⟨es,clock,hh,F,by simp [Maps.size,length_sorted],rfl⟩
theorem turned_but {w w':World} {b:Nat} (h:w.mapTurned w' b):But (fun k=>k=b) w w':=by
 obtain ⟨es,clock,es',clock',hb,rfl⟩:=h
 exact ⟨rfl,rfl,rfl,by simp [setBlock],fun i _ hi=>heap_setBlock_other hb _ hi⟩
section
variable {w w':World} {p mb:Nat} {T:List Tok}
theorem RAt.but {F:Nat→Prop} (h:RAt w p mb T) (hb:But F w w') (h1:¬ F p) (h2:¬ F mb):RAt w' p mb T:=by
 obtain ⟨n,D,hm,hn,ht⟩:=h.map
 exact ⟨h.blk.but hb h1,⟨n,D,ownsMap_but hm hb h2,hn,ht⟩,h.good⟩
theorem RAt.lt (h:RAt w p mb T):p < w.heap.size∧mb < w.heap.size:=by
 obtain ⟨n,D,hm,hn,ht⟩:=h.map
 exact ⟨h.blk.lt,hm.lt⟩
theorem RAt.new (h:RAt w p mb T) (hb:But (fun _=>False) w w'):RAt w' p mb T:=h.but hb (fun h=>h) (fun h=>h)
theorem RAt.ne (h:RAt w p mb T) {g:Nat} {t:TypeId} {cs:Array Value} (hg:Blk w g t cs):mb≠g:=by
 rintro rfl
 obtain ⟨n,D,⟨es,clock,hh,r⟩,hn,ht⟩:=h.map
 have h2:w.heap[mb]?=some (.cells cs t (0,0)):=hg
 rw [hh] at h2
 cases h2
theorem RAt.tight (h:RAt w p mb T):∃ D,w.ownsMap Tryz.prog 22 tokElem mb T.length D∧Tells D T:=by
 obtain ⟨n,D,hm,hn,ht⟩:=h.map
 have:=ownsMap_tight hm
 rw [ht.size] at this
 exact ⟨D,this,ht⟩
def tokOf:Option Tok→Array Value
 | some x=>tcells x.r x.k
 | none=>tcells 0 0
theorem zeroTok (w:World):(zeroValue 112).run Tryz.prog w = .ok (.agg (tcells 0 0)) w:=by kernel_rfl
theorem RAt.look (h:RAt w p mb T) {s:Nat} (hs:s < 4294967296) (o:Option Tok) (ho:look s T=o) :
  (Instr.lookup 98 (.map (some mb)) (.int .u32 (s:Int)) true).run Tryz.prog w = .ok (.tuple #[.agg (tokOf o),.bool o.isSome]) w:=by
 obtain ⟨n,D,hm,hn,ht⟩:=h.map
 obtain ⟨v,ps,hrun,hv⟩:=hm.look_ok law Tryz.underlying98 (zeroTok w) (tokElem_is 0 0) (key32 hs)
 rw [ht.has,ho] at hrun
 rw [hrun]
 have hz:∀ {r k:Int},tokElem v=some (.held (r,k),ps)→v = .agg #[.int .i64 r,.int .u64 k]:=by
  intro r k e
  unfold tokElem at e
  split at e
  ·simp only [Option.some.injEq,Prod.mk.injEq,DataW.held.injEq] at e
   obtain ⟨⟨rfl,rfl⟩,_⟩:=e
   rfl
  ·cases e
 cases o with
 | none =>
  rw [Maps.atKey_of_not_has (by rw [ht.has,ho];rfl)] at hv
  rw [hz hv];rfl
 | some x =>
  rw [ht.key s x ho] at hv
  rw [hz hv];rfl
end
end Go.Proofs.YtgjofinbdigmcaaGreat.Rgt
end
section
namespace Go.Proofs.YtgjofinbdigmcaaGreat.Rgt
open Go.Proofs.YtgjofinbdigmcaaGreat.Mem
open Go.ChangeShapes Go.WideShapes Go.ChangeAt Go.RowKit
open Go.Proofs.YtgjofinbdigmcaaGreat.Err (errV errV_zero errV_some)
section
variable {w w':World} {p mb:Nat} {T:List Tok}
theorem rgt_are (r:Int) (w:World):Calls Tryz.prog 62 #[.int .i64 r] w fun e w'=>e = .returned (.bool (decide (1≤r∧r≤7)))∧w=w':=by
 by_cases h1:r ≥ 1
 ·by_cases h2:r≤7
  ·rw [show decide (1≤r∧r≤7)=true from by simp;omega]
   go_enter Tryz.func62,Tryz.ntmps62
   go_wp2
   go_ret
   exact ⟨rfl,rfl⟩
  ·rw [show decide (1≤r∧r≤7)=false from by simp;omega]
   go_enter Tryz.func62,Tryz.ntmps62
   go_wp2
   go_ret
   exact ⟨rfl,rfl⟩
 ·rw [show decide (1≤r∧r≤7)=false from by simp;omega]
  go_enter Tryz.func62,Tryz.ntmps62
  go_wp2
  go_ret
  exact ⟨rfl,rfl⟩
theorem rgt_new (w:World):Calls Tryz.prog 23 #[] w fun e w'=>∃ p mb,e = .returned (.pointer (some ⟨p,0,none⟩))∧RAt w' p mb []∧(w.heap.size≤p∧w.heap.size≤mb)∧But (fun _=>False) w w':=by
 have hmm := @run_makeMap Tryz.prog
 go_enter Tryz.func23,Tryz.ntmps23
 go_wp2
 go_ret
 refine ⟨w.heap.size+1,w.heap.size,by simp,?_,⟨by omega,by omega⟩,((But.refl _ w).alloc _).alloc _⟩
 have h1:Blk ((w.alloc (.map #[] 0)).alloc (.cells #[.map (some w.heap.size)] 100)) (w.alloc (.map #[] 0)).heap.size 100 #[.map (some w.heap.size)]:=Blk.new _ _ _
 rw [show (w.alloc (.map #[] 0)).heap.size=w.heap.size+1 from by simp] at h1
 exact ⟨h1,⟨0,.map [],(World.ownsMap_made w _ _ _).alloc _,by omega,tells_new⟩,Good.nil⟩
theorem rgt_rights (h:RAt w p mb T) {s k:Nat} (hs:s < 4294967296):Calls Tryz.prog 47 #[.pointer (some ⟨p,0,none⟩),.int .u32 (s:Int),.int .u64 (k:Int)] w fun e w'=>e = .returned (.int .i64 (has s k T))∧But (fun _=>False) w w':=by
 have c0:w.cell? ⟨p,0,none⟩=some (.map (some mb)):=h.blk.cell 0
 rcases ho:look s T with _|x
 ·have lk:=h.look hs none ho
  have e1:has s k T=0:=by unfold has;rw [ho]
  rw [e1]
  clear e1
  unfold tokOf tcells at lk
  go_enter Tryz.func47,Tryz.ntmps47
  go_wp2
  go_ret
  exact ⟨rfl,(But.refl _ w).alloc _⟩
 ·have lk:=h.look hs (some x) ho
  unfold tokOf tcells at lk
  by_cases hk:x.k=k
  ·have e1:has s k T=x.r:=by unfold has;rw [ho];exact if_pos hk
   rw [e1]
   clear e1
   have hkk:((x.k:Int)=(k:Int)):=by omega
   go_enter Tryz.func47,Tryz.ntmps47
   go_wp2
   go_ret
   exact ⟨rfl,(But.refl _ w).alloc _⟩
  ·have e1:has s k T=0:=by unfold has;rw [ho];exact if_neg hk
   rw [e1]
   clear e1
   have hkk:¬ ((x.k:Int)=(k:Int)):=by omega
   go_enter Tryz.func47,Tryz.ntmps47
   go_wp2
   go_ret
   exact ⟨rfl,(But.refl _ w).alloc _⟩
theorem rgt_revoke (h:RAt w p mb T) {s:Nat} (hs:s < 4294967296):Calls Tryz.prog 33 #[.pointer (some ⟨p,0,none⟩),.int .u32 (s:Int)] w fun e w'=>e = .returned (.bool (look s T).isSome)∧RAt w' p mb (del s T)∧But (fun j=>j=mb) w w':=by
 have c0:w.cell? ⟨p,0,none⟩=some (.map (some mb)):=h.blk.cell 0
 obtain ⟨o,ho⟩:∃ o,look s T=o:=⟨_,rfl⟩
 have lk:=h.look hs o ho
 obtain ⟨r,k,hrk⟩:∃ (r:Int) (k:Nat),tokOf o=tcells r k:=by
  cases o with
  | none=>exact ⟨0,0,rfl⟩
  | some x=>exact ⟨x.r,x.k,rfl⟩
 rw [hrk] at lk
 unfold tcells at lk
 rw [ho]
 clear hrk
 obtain ⟨b,hb⟩:∃ b,o.isSome=b:=⟨_,rfl⟩
 rw [hb] at lk ⊢
 have HB:=Lib.hid (And.intro ho hb)
 clear hb ho
 have h2:=h.new ((But.refl (fun _=>False) w).alloc (.cells #[.int .i64 r,.int .u64 (k:Int)] 112))
 obtain ⟨n,D,hm,hn,ht⟩:=h2.map
 have c1:(w.alloc (.cells #[.int .i64 r,.int .u64 (k:Int)] 112)).cell? ⟨p,0,none⟩=some (.map (some mb)):=h2.blk.cell 0
 have H:=Lib.hid h2
 have HM:=Lib.hid hm
 have HT:=Lib.hid (And.intro hn ht)
 have HP:=Lib.hid h.lt
 clear h h2 hm hn ht
 go_enter Tryz.func33,Tryz.ntmps33
 go_wp2_with (at_delete;refine wpList_delete_own _ rfl _ _ 98 22 rfl 112 law Tryz.underlying98 _ mb _ _ rfl HM.out _ _ rfl (key32 hs) ?_;intro w5 hm5 ht5;clear c0 c1 lk)
 go_ret
 have hb5:=turned_but ht5
 have h5:=H.out
 refine ⟨rfl,⟨h5.blk.but hb5 (fun e=>h5.ne h5.blk e.symm),⟨n,_,hm5,HT.out.1,HT.out.2.del (HM.out.tidy law) h5.good.ris s⟩,h5.good.del s⟩,(((But.refl (fun j=>j=mb) w).alloc _).trans hb5 (fun j _ e=>e))⟩
theorem rgt_put (h:RAt w p mb T) {s k:Nat} (hs:s < 4294967296) (hk:k < 18446744073709551616) (r:Int):Calls Tryz.prog 31 #[.pointer (some ⟨p,0,none⟩),.int .u32 (s:Int),.int .i64 r,.int .u64 (k:Int)] w fun e w'=>e = .returned (errV (putErr s r T))∧RAt w' p mb (putTo ⟨s,r,k⟩ T)∧But (fun j=>j=mb) w w':=by
 have c0:w.cell? ⟨p,0,none⟩=some (.map (some mb)):=h.blk.cell 0
 have ha:=Lib.hid (rgt_are r)
 by_cases hr:1≤r∧r≤7
 ·have hr2:decide (1≤r∧r≤7)=true:=by simp;omega
  rw [hr2] at ha
  obtain ⟨o,ho⟩:∃ o,look s T=o:=⟨_,rfl⟩
  have lk:=h.look hs o ho
  obtain ⟨r0,k0,hrk⟩:∃ (r:Int) (k:Nat),tokOf o=tcells r k:=by
   cases o with
   | none=>exact ⟨0,0,rfl⟩
   | some x=>exact ⟨x.r,x.k,rfl⟩
  rw [hrk] at lk
  unfold tcells at lk
  have h2:=h.new ((But.refl (fun _=>False) w).alloc (.cells #[.int .i64 r0,.int .u64 (k0:Int)] 112))
  obtain ⟨D,hm,ht⟩:=h2.tight
  have c1:(w.alloc (.cells #[.int .i64 r0,.int .u64 (k0:Int)] 112)).cell? ⟨p,0,none⟩=some (.map (some mb)):=h2.blk.cell 0
  have hl:=hm.len Tryz.underlying98
  rw [ht.size] at hl
  have H:=Lib.hid h2
  have HM:=Lib.hid hm
  have HT:=Lib.hid ht
  have HP:=Lib.hid h.lt
  clear h h2 hm ht hrk
  by_cases hfull:o=none∧100≤T.length
  ·have e1:putErr s r T=13:=by unfold putErr;rw [if_neg (by omega),if_pos (by rw [ho];exact hfull)]
   have e2:putTo ⟨s,r,k⟩ T=T:=by unfold putTo;rw [if_neg (by show ¬ putErr s r T=0;rw [e1];omega)]
   rw [e1,e2]
   obtain ⟨rfl,hf⟩:=hfull
   have hfi:(100:Int)≤(T.length:Int):=by omega
   clear e1 e2 hf ho
   obtain ⟨m,hm⟩:∃ m,m=T.length:=⟨_,rfl⟩
   rw [← hm] at hl hfi
   clear hm
   go_enter Tryz.func31,Tryz.ntmps31
   go_wp2_with (first|(go_at_call 62;refine (ha.out _).mono ?_;rintro e w1 ⟨rfl,rfl⟩))
   go_ret
   exact ⟨rfl,H.out,(But.refl (fun j=>j=mb) w).alloc _⟩
  ·have e1:putErr s r T=0:=by unfold putErr;rw [if_neg (by omega),if_neg (by rw [ho];exact hfull)]
   have e2:putTo ⟨s,r,k⟩ T=put ⟨s,r,k⟩ T:=by unfold putTo;rw [if_pos e1]
   have hG:=Lib.hid (show Good (put ⟨s,r,k⟩ T) from e2 ▸ (H.out.good.putTo (x:=⟨s,r,k⟩) hs hk))
   rw [e1,e2]
   have hb2:=Lib.hid ((But.refl (fun j=>j=mb) w).alloc (.cells #[.int .i64 r0,.int .u64 (k0:Int)] 112))
   have hf:o=none→¬ (100:Int)≤(T.length:Int):=fun h h2=>hfull ⟨h,by omega⟩
   have hTl:=H.out.good.len
   have HTL:=Lib.hid hTl
   clear e1 e2 ho hfull hTl
   obtain ⟨m,hm⟩:∃ m,m=T.length:=⟨_,rfl⟩
   rw [← hm] at hl hf HM HTL
   have HMM:=Lib.hid hm
   clear hm
   obtain ⟨W2,hW2⟩:∃ W2,W2=w.alloc (.cells #[.int .i64 r0,.int .u64 (k0:Int)] 112):=⟨_,rfl⟩
   cases o with
   | none =>
    have hfi:=hf rfl
    clear hf hW2
    go_enter Tryz.func31,Tryz.ntmps31
    go_wp2_with (first
     | (go_at_call 62;refine (ha.out _).mono ?_;rintro e w1 ⟨rfl,rfl⟩)
     | (at_mapUpdate;refine wpList_mapUpdate_in _ rfl _ _ _ 98 rfl 22 112 law Tryz.underlying98 _ mb _ _ rfl HM.out (by have:=HTL.out;unfold maxLen;omega) _ _ _ rfl rfl (key32 hs) _ _ (tokElem_is r k) ?_;intro w5 hm5 ht5;clear c0 c1 lk hl))
    go_ret
    have hb5:=turned_but ht5
    have h5:=H.out
    exact ⟨rfl,⟨h5.blk.but hb5 (fun e=>h5.ne h5.blk e.symm),⟨_,_,hm5,by have:=HTL.out;omega,HT.out.put HM.out.isMap (HM.out.tidy law) h5.good.ris ⟨s,r,k⟩⟩,hG.out⟩,hb2.out.trans hb5 (fun j _ e=>e)⟩
   | some x =>
    clear hf hW2
    go_enter Tryz.func31,Tryz.ntmps31
    go_wp2_with (first
     | (go_at_call 62;refine (ha.out _).mono ?_;rintro e w1 ⟨rfl,rfl⟩)
     | (at_mapUpdate;refine wpList_mapUpdate_in _ rfl _ _ _ 98 rfl 22 112 law Tryz.underlying98 _ mb _ _ rfl HM.out (by have:=HTL.out;unfold maxLen;omega) _ _ _ rfl rfl (key32 hs) _ _ (tokElem_is r k) ?_;intro w5 hm5 ht5;clear c0 c1 lk hl))
    go_ret
    have hb5:=turned_but ht5
    have h5:=H.out
    exact ⟨rfl,⟨h5.blk.but hb5 (fun e=>h5.ne h5.blk e.symm),⟨_,_,hm5,by have:=HTL.out;omega,HT.out.put HM.out.isMap (HM.out.tidy law) h5.good.ris ⟨s,r,k⟩⟩,hG.out⟩,hb2.out.trans hb5 (fun j _ e=>e)⟩
 ·have hr2:decide (1≤r∧r≤7)=false:=by simp;omega
  rw [hr2] at ha
  have e1:putErr s r T=1:=by unfold putErr;rw [if_pos (by omega)]
  have e2:putTo ⟨s,r,k⟩ T=T:=by unfold putTo;rw [if_neg (by show ¬ putErr s r T=0;rw [e1];omega)]
  rw [e1,e2]
  have H:=Lib.hid h
  clear h c0 hr hr2 e1 e2
  go_enter Tryz.func31,Tryz.ntmps31
  go_wp2_with (first|(go_at_call 62;refine (ha.out _).mono ?_;rintro e w1 ⟨rfl,rfl⟩))
  go_ret
  exact ⟨rfl,H.out,But.refl _ w⟩
end
end Go.Proofs.YtgjofinbdigmcaaGreat.Rgt
end
section
namespace Go.Proofs.YtgjofinbdigmcaaGreat.Pack
open Go.Proofs.YtgjofinbdigmcaaGreat.Mem
def put (n:Nat):Nat→List Int
 | 0=>[]
 | k+1=>((n % 256:Nat):Int) :: put (n / 256) k
theorem put_length (n k:Nat):(put n k).length=k:=by
 induction k generalizing n with
 | zero=>rfl
 | succ k ih=>simp [put,ih]
theorem put_bytes (n k:Nat):Bytes (put n k):=by
 induction k generalizing n with
 | zero=>exact bytes_nil
 | succ k ih =>
  intro z hz
  rcases List.mem_cons.mp hz with rfl|h
  ·omega
  ·exact ih _ z h
def left (zs:List Int) (k:Nat):List Int:=if k≤zs.length then zs.drop k else []
end Go.Proofs.YtgjofinbdigmcaaGreat.Pack
end
section
namespace Go.Proofs.YtgjofinbdigmcaaGreat.Pack
open Go.Proofs.YtgjofinbdigmcaaGreat.Mem
open Go.ChangeShapes Go.WideShapes Go.ChangeAt Go.RowKit
theorem ret_int {k:IntKind} {a b:Int} (h:a=b):Ending.returned (.int k a) = .returned (.int k b):=by rw [h]
theorem u8_info:(Tryz.prog.info? 5).map (fun i=>(i.zero,i.size,i.bytes))=some (some (.int .u8 0),1,1):=by kernel_rfl
theorem may_yes (k:Int) (h1:1≤k) (h8:k≤8) (w:World) :
  Calls Tryz.prog 102 #[.int .i64 k] w fun e w'=>e = .returned (.bool true)∧w=w':=by
 go_enter Tryz.func102,Tryz.ntmps102
 go_wp2
 go_ret
 exact ⟨rfl,rfl⟩
def AtNext (w:World) (v:Value) (base len:Nat) (xs:List Int) (n k:Nat) (a':Act) (w':World):Prop :=
 ∃ (v':Value) (m j:Nat) (ys:List Int) (u7 u8 u9 u10 u11 u12 u13 u14 u15 u16 u17 u18 u19 u20 u21 u22:Value),a'={ tmps := #[v',.int .u64 (m:Int),.int .i64 (j:Int),undef,undef,undef,.slice none 0 0,u7,u8,u9,u10,u11,u12,u13,u14,u15,u16,u17,u18,u19,u20,u21,u22],defers:=[] } ∧
  w'.ownsRow base 5 1 v' (len+(k - j)) (cellsOf ys)∧Onto w w' v v'∧ys++put m j=xs++put n k∧1≤j∧j≤k∧m < 18446744073709551616∧base≤w'.heap.size
theorem next_step {ys zs:List Int} {m j:Nat} (h:ys++put m (j+1)=zs):(ys++[((m % 256:Nat):Int)])++put (m / 256) j=zs:=by
 rw [← h,put,List.append_assoc];rfl
theorem next_last {ys zs:List Int} {m:Nat} (h:ys++put m 1=zs):ys++[((m % 256:Nat):Int)]=zs:=by
 have:=next_step (j:=0) h
 simpa [put] using this
theorem scope_label {P:Program} {a:Act} {w:World} {Q:Exit→Act→World→Prop} {c rest:Code} (l:Nat) (J:Act→World→Prop) (μ:Act→World→Nat) (hf:findLabel c l=some (Code.skip.seq rest))
  (pass:∀ a w,J a w→rest.wp P (Exit.jump l (fun a' w'=>J a' w'∧μ a' w' < μ a w) Q) a w)
  (first:(∀ a w,J a w→rest.wp P (Exit.jump l J Q) a w)→c.wp P (Exit.jump l J Q) a w):(Code.scope c).wp P Q a w:=by
 refine wp_scope_jumps l J μ hf (first fun a w hJ=>Code.wp_mono ?_ (pass a w hJ)) (fun a w hJ=>wp_seq (wp_skip (pass a w hJ)))
 intro e a' w' h
 cases e <;> first|exact h|exact ⟨h.1,h.2.1⟩
theorem put_any (n:Nat) (hn:n < 18446744073709551616) (k:Nat) (h1:1≤k) (h8:k≤8) (v:Value) (len:Nat) (xs:List Int) (base:Nat) (w:World)
  (hown:w.ownsRow base 5 1 v len (cellsOf xs)) (hb:base≤w.heap.size) (hl:len≤1073741824) :
  Calls Tryz.prog 81 #[v,.int .u64 (n:Int),.int .i64 (k:Int)] w fun e w'=>∃ v',e = .returned v'∧w'.ownsRow base 5 1 v' (len+k) (cellsOf (xs++put n k))∧Onto w w' v v':=by
 obtain ⟨i0,hi0,hz0,hz1,hz2⟩:=info_parts u8_info
 go_enter Tryz.func81,Tryz.ntmps81
 go_wp2
 refine scope_label 0 (AtNext w v base len xs n k) (fun a' _=>(intOf (a'.tmps.getD 2 undef)).toNat) rfl ?_ ?_
 ·rintro a' wr ⟨v',m,j,ys,u7,u8,u9,u10,u11,u12,u13,u14,u15,u16,u17,u18,u19,u20,u21,u22,rfl,ho,hon,hys,hj1,hjk,hm,hbr⟩
  have e1:(ys++[((m % 256:Nat):Int)]).length=ys.length+1:=by simp
  have HYS:=Lib.hid hys
  clear hys
  by_cases hj:1 < j
  ·go_wp2_with (at_builtin;refine wpList_append_onto rfl (.tmp 11) (.tmp 14) _ rfl base 5 i0 _ 1 1 Tryz.underlying115 hi0 hz0 hz1 hz2 rfl (by omega) v' (len+(k - j)) (cellsOf ys) rfl (ownsRow_alloc ho _) _ 1 _ rfl (sees_one _ _ _ _) (by simp [Value.oneCell']) (by simp only [maxLen];omega) (by omega) (by simp;omega) ?_;intro v2 w2 ho2 hon2)
   have e2:(m:Int) / 256=((m / 256:Nat):Int):=by omega
   have e3:(j:Int) - 1=((j - 1:Nat):Int):=by omega
   rw [e2,e3]
   go_step3
   refine ⟨rfl,⟨v2,m / 256,j - 1,ys++[((m % 256:Nat):Int)],_,_,_,_,_,_,_,_,_,_,_,_,_,_,_,_,rfl,?_,hon.trans (hon2.of_alloc (fun k hk=>(ho.lt k hk).2)),?_,by omega,by omega,by omega,?_⟩,?_⟩
   ·rw [cellsOf_append]
    have e4:len+(k - (j - 1))=len+(k - j)+1:=by omega
    rw [e4]
    exact ho2
   ·exact next_step (j:=j - 1) (by rw [show j - 1+1=j by omega];exact HYS.out)
   ·have:=hon2.grown.size;simp at this;omega
   ·simp [intOf];omega
  ·have hj0:j=1:=by omega
   subst hj0
   go_wp2_with (at_builtin;refine wpList_append_onto rfl (.tmp 11) (.tmp 14) _ rfl base 5 i0 _ 1 1 Tryz.underlying115 hi0 hz0 hz1 hz2 rfl (by omega) v' (len+(k - 1)) (cellsOf ys) rfl (ownsRow_alloc ho _) _ 1 _ rfl (sees_one _ _ _ _) (by simp [Value.oneCell']) (by simp only [maxLen];omega) (by omega) (by simp;omega) ?_;intro v2 w2 ho2 hon2)
   simp only [Exit.jump]
   go_ret
   refine ⟨v2,rfl,?_,hon.trans (hon2.of_alloc (fun k hk=>(ho.lt k hk).2))⟩
   have e4:len+k=len+(k - 1)+1:=by omega
   have e5:=next_last HYS.out
   rw [e4,← e5,cellsOf_append]
   exact ho2
 ·intro hrest
  go_wp2_with (go_at_call 102;refine (may_yes _ (by omega) (by omega) _).mono ?_;rintro e w' ⟨rfl,rfl⟩)
  go_step3
  rename_i hK
  exact hK _ _ (hrest _ _ ⟨v,n,k,xs,_,_,_,_,_,_,_,_,_,_,_,_,_,_,_,_,rfl,by simpa using hown,Onto.refl _ _,rfl,h1,Nat.le_refl _,hn,hb⟩)
end Go.Proofs.YtgjofinbdigmcaaGreat.Pack
end
section
namespace Go.Proofs.YtgjofinbdigmcaaGreat.Pack
open Go.Proofs.YtgjofinbdigmcaaGreat.Mem
open Go.ChangeShapes Go.WideShapes Go.ChangeAt Go.RowKit
theorem refPut_any (n:Nat) (hn:n < 18446744073709551616) (k:Nat) (h8:k≤8) (v:Value) (len:Nat) (xs:List Int) (base:Nat) (w:World)
  (hown:w.ownsRow base 5 1 v len (cellsOf xs)) (hb:base≤w.heap.size) (hl:len≤1073741824) :
  Calls Tryz.prog 85 #[v,.int .u64 (n:Int),.int .i64 (k:Int)] w fun e w'=>∃ v',e = .returned v'∧w'.ownsRow base 5 1 v' (len+k) (cellsOf (xs++put n k))∧Onto w w' v v':=by
 obtain ⟨i0,hi0,hz0,hz1,hz2⟩:=info_parts u8_info
 go_enter Tryz.func85,Tryz.ntmps85
 go_wp2
 go_loopw [0,1,7] (fun v' m' i wr=>∃ (m j:Nat) (ys:List Int),j≤k∧i = .int .i64 (j:Int)∧m' = .int .u64 (m:Int)∧wr.ownsRow base 5 1 v' (len+j) (cellsOf ys)∧Onto w wr v v'∧ys++put m (k - j)=xs++put n k∧m < 18446744073709551616∧base≤wr.heap.size) (fun _ _ i _=>k - (intOf i).toNat)
 case atStart=>exact ⟨n,0,xs,by omega,rfl,rfl,hown,Onto.refl _ _,rfl,hn,hb⟩
 case round =>
  obtain ⟨m,j,ys,hj,rfl,rfl,ho,hon,hys,hm,hbr⟩:=hrel
  have HYS:=Lib.hid hys
  clear hys
  by_cases hlt:j < k
  ·go_wp2_with (at_builtin;refine wpList_append_onto rfl (.tmp 17) (.tmp 21) _ rfl base 5 i0 _ 1 1 Tryz.underlying115 hi0 hz0 hz1 hz2 rfl (by omega) u0 (len+j) (cellsOf ys) rfl (ownsRow_alloc ho _) _ 1 _ rfl (sees_one _ _ _ _) (by simp [Value.oneCell']) (by simp only [maxLen];omega) (by omega) (by simp;omega) ?_;intro v2 w2 ho2 hon2)
   have e2:(m:Int) / 256=((m / 256:Nat):Int):=by omega
   rw [e2]
   go_roundw
   case rel =>
    refine ⟨m / 256,j+1,ys++[((m % 256:Nat):Int)],by omega,by go_num,rfl,?_,hon.trans (hon2.of_alloc (fun k hk=>(ho.lt k hk).2)),?_,by omega,?_⟩
    ·rw [cellsOf_append];exact ho2
    ·exact next_step (j:=k - (j+1)) (by rw [show k - (j+1)+1=k - j by omega];exact HYS.out)
    ·have:=hon2.grown.size;simp at this;omega
   case measure=>simp [intOf];omega
  ·have hjk:j=k:=by omega
   subst hjk
   go_wp2
   go_ret
   refine ⟨_,rfl,?_,hon⟩
   have e5:=HYS.out
   rw [Nat.sub_self,put,List.append_nil] at e5
   rw [← e5]
   exact ho
def cut (s:ByteArray):ByteArray:=if 65535 < s.size then s.extract 0 65535 else s
theorem strBytes_take (T:ByteArray) (j:Nat) (h:j < T.size):(strBytes T).take (j+1)=(strBytes T).take j++[((T[j]).toNat:Int)]:=by
 have hl:j < (strBytes T).length:=by rw [strBytes_length];exact h
 rw [List.take_succ_eq_append_getElem hl]
 have e:(strBytes T)[j]'hl=((T[j]).toNat:Int):=(List.getElem_map (f:=fun b:UInt8=>(b.toNat:Int)) (l:=T.data.toList) (i:=j) (h:=hl)).trans rfl
 rw [e]
theorem strBytes_all (T:ByteArray) {j:Nat} (h:¬ j < T.size):(strBytes T).take j=strBytes T:=List.take_of_length_le (by rw [strBytes_length];omega)
def AtText (w:World) (v:Value) (base len:Nat) (xs:List Int) (T:ByteArray) (a':Act) (w':World):Prop :=
 ∃ (v':Value) (j:Nat) (u6 u7 u8 u9 u10 u11 u12 u13 u14 u15 u16 u17 u18 u19 u20 u21 u22 u23 u24 u25 u26 u27 u28:Value),a'={ tmps := #[v',.string T,undef,undef,.slice none 0 0,.int .i64 (j:Int),u6,u7,u8,u9,u10,u11,u12,u13,u14,u15,u16,u17,u18,u19,u20,u21,u22,u23,u24,u25,u26,u27,u28],defers:=[] }∧j≤T.size ∧
  w'.ownsRow base 5 1 v' (len+2+j) (cellsOf (xs++put T.size 2++(strBytes T).take j))∧Onto w w' v v'∧base≤w'.heap.size
theorem putText_any (s T:ByteArray) (hT:T=cut s) (v:Value) (len:Nat) (xs:List Int) (base:Nat) (w:World)
  (hown:w.ownsRow base 5 1 v len (cellsOf xs)) (hb:base≤w.heap.size) (hl:len≤1073741824) (hs:s.size≤140737488355328) :
  Calls Tryz.prog 83 #[v,.string s] w fun e w'=>∃ v',e = .returned v'∧w'.ownsRow base 5 1 v' (len+2+T.size) (cellsOf (xs++put T.size 2++strBytes T))∧Onto w w' v v':=by
 obtain ⟨i0,hi0,hz0,hz1,hz2⟩:=info_parts u8_info
 have HT:=Lib.hid hT
 have hTs:T.size≤65535:=by
  rw [hT,cut]
  split
  ·rw [ByteArray.size_extract];omega
  ·omega
 clear hT
 go_enter Tryz.func83,Tryz.ntmps83
 go_wp2
 refine scope_label 0 (AtText w v base len xs T) (fun a' _=>T.size - (intOf (a'.tmps.getD 5 undef)).toNat) rfl ?_ ?_
 ·rintro a' wr ⟨v',j,u6,u7,u8,u9,u10,u11,u12,u13,u14,u15,u16,u17,u18,u19,u20,u21,u22,u23,u24,u25,u26,u27,u28,rfl,hj,ho,hon,hbr⟩
  by_cases hlt:j < T.size
  ·go_wp2_with (at_builtin;refine wpList_append_onto rfl (.tmp 20) (.tmp 24) _ rfl base 5 i0 _ 1 1 Tryz.underlying115 hi0 hz0 hz1 hz2 rfl (by omega) v' (len+2+j) (cellsOf (xs++put T.size 2++(strBytes T).take j)) rfl (ownsRow_alloc ho _) _ 1 _ rfl (sees_one _ _ _ _) (by simp [Value.oneCell']) (by simp only [maxLen];omega) (by omega) (by simp;omega) ?_;intro v2 w2 ho2 hon2)
   have e3:(j:Int)+1=((j+1:Nat):Int):=by omega
   rw [e3]
   go_step3
   refine ⟨rfl,⟨v2,j+1,_,_,_,_,_,_,_,_,_,_,_,_,_,_,_,_,_,_,_,_,_,_,_,rfl,by omega,?_,hon.trans (hon2.of_alloc (fun k hk=>(ho.lt k hk).2)),?_⟩,?_⟩
   ·rw [strBytes_take T j hlt,← List.append_assoc,cellsOf_append (xs++put T.size 2++(strBytes T).take j)]
    exact ho2
   ·have:=hon2.grown.size;simp at this;omega
   ·simp [intOf];omega
  ·have hj0:j=T.size:=by omega
   rw [strBytes_all T hlt] at ho
   subst hj0
   go_wp2
   simp only [Exit.jump]
   go_ret
   exact ⟨_,rfl,ho,hon⟩
 ·intro hrest
  have HR:=Lib.hid hrest
  clear hrest
  by_cases h:65535 < s.size
  ·have hTe:T=s.extract 0 65535:=by rw [HT.out,cut,if_pos h]
   have hsz:T.size=min 65535 s.size:=by rw [hTe,ByteArray.size_extract];omega
   have HSZ:=Lib.hid hsz
   have HTE:=Lib.hid hTe
   clear hsz hTe
   go_wp2_with (go_at_call 81;refine (put_any (min 65535 s.size) (by omega) 2 (by omega) (by omega) v len xs base w hown hb hl).mono ?_;rintro e w1 ⟨v1,rfl,ho1,hon1⟩)
   go_step3
   rename_i hK
   refine hK _ _ (HR.out _ _ ?_)
   rw [← HTE.out]
   refine ⟨v1,0,_,_,_,_,_,_,_,_,_,_,_,_,_,_,_,_,_,_,_,_,_,_,_,rfl,by omega,?_,hon1,?_⟩
   ·rw [← HSZ.out] at ho1
    simpa using ho1
   ·have:=hon1.grown.size;omega
  ·have hTe:T=s:=by rw [HT.out,cut,if_neg h]
   subst hTe
   go_wp2_with (go_at_call 81;refine (put_any T.size (by omega) 2 (by omega) (by omega) v len xs base w hown hb hl).mono ?_;rintro e w1 ⟨v1,rfl,ho1,hon1⟩)
   go_step3
   rename_i hK
   refine hK _ _ (HR.out _ _ ?_)
   refine ⟨v1,0,_,_,_,_,_,_,_,_,_,_,_,_,_,_,_,_,_,_,_,_,_,_,_,rfl,by omega,?_,hon1,?_⟩
   ·simpa using ho1
   ·have:=hon1.grown.size;omega
theorem grown_onto {w w1 w2:World} {v v1:Value} (h:Onto w w1 v v1) (k:w1.grownBy w2 v1.ownBlock):w.grownBy w2 v.ownBlock:=by
 have hs:=h.grown.size
 refine ⟨k.os.trans h.grown.os,k.tape.trans h.grown.tape,k.output.trans h.grown.output,Nat.le_trans hs k.size,fun i hi hne=>?_⟩
 refine (k.block i (by omega) (fun e=>?_)).trans (h.grown.block i hi hne)
 rcases h.own with h1|h1
 ·exact hne (e.trans h1)
 ·have:=h1 i e.symm;omega
theorem refText_grown (s T:ByteArray) (hT:T=cut s) (v:Value) (len:Nat) (xs:List Int) (base:Nat) (w:World)
  (hown:w.ownsRow base 5 1 v len (cellsOf xs)) (hb:base≤w.heap.size) (hl:len≤1073741824) (hs:s.size≤140737488355328) :
  Calls Tryz.prog 86 #[v,.string s] w fun e w'=>∃ v',e = .returned v'∧w'.ownsRow base 5 1 v' (len+2+T.size) (cellsOf (xs++put T.size 2++strBytes T))∧w.grownBy w' v.ownBlock:=by
 obtain ⟨i0,hi0,hz0,hz1,hz2⟩:=info_parts u8_info
 have HT:=Lib.hid hT
 have hTs:T.size≤65535:=by
  rw [hT,cut]
  split
  ·rw [ByteArray.size_extract];omega
  ·omega
 clear hT
 by_cases h:65535 < s.size
 ·have hTe:T=s.extract 0 65535:=by rw [HT.out,cut,if_pos h]
  have hsz:T.size=min 65535 s.size:=by rw [hTe,ByteArray.size_extract];omega
  have HSZ:=Lib.hid hsz
  have HTE:=Lib.hid hTe
  clear hsz hTe
  go_enter Tryz.func86,Tryz.ntmps86
  go_wp2_with (first
   | (go_at_call 85;refine (refPut_any (min 65535 s.size) (by omega) 2 (by omega) v len xs base w hown hb hl).mono ?_;rintro e w1 ⟨v1,rfl,ho1,hon1⟩)
   | (at_builtin;refine wpList_append_str_grown rfl (.tmp 14) (.tmp 15) _ _ rfl base 5 i0 Tryz.underlying115 Tryz.underlying9 hi0 hz0 hz1 hz2 v1 (len+2) _ rfl ho1 (s.extract 0 65535) rfl (by rw [← HTE.out];simp only [maxLen];omega) (by rw [← HTE.out];omega) (by have:=hon1.grown.size;omega) ?_;intro v2 w2 ho2 hb2))
  go_ret
  refine ⟨_,rfl,?_,grown_onto hon1 hb2⟩
  rw [← HTE.out,← HSZ.out,← cellsOf_append] at ho2
  exact ho2
 ·have hTe:T=s:=by rw [HT.out,cut,if_neg h]
  subst hTe
  go_enter Tryz.func86,Tryz.ntmps86
  go_wp2_with (first
   | (go_at_call 85;refine (refPut_any T.size (by omega) 2 (by omega) v len xs base w hown hb hl).mono ?_;rintro e w1 ⟨v1,rfl,ho1,hon1⟩)
   | (at_builtin;refine wpList_append_str_grown rfl (.tmp 14) (.tmp 15) _ _ rfl base 5 i0 Tryz.underlying115 Tryz.underlying9 hi0 hz0 hz1 hz2 v1 (len+2) _ rfl ho1 T rfl (by simp only [maxLen];omega) (by omega) (by have:=hon1.grown.size;omega) ?_;intro v2 w2 ho2 hb2))
  go_ret
  refine ⟨_,rfl,?_,grown_onto hon1 hb2⟩
  rw [← cellsOf_append] at ho2
  exact ho2
end Go.Proofs.YtgjofinbdigmcaaGreat.Pack
end
section
namespace Go.Proofs.YtgjofinbdigmcaaGreat.Pack
open Go.Proofs.YtgjofinbdigmcaaGreat.Mem
open Go.ChangeShapes Go.WideShapes Go.ChangeAt Go.RowKit
def Rd (w:World) (p D:Nat) (zs:List Int) (short:Bool):Prop :=
 w.cell? ⟨p,1,none⟩=some (.bool short)∧w.frozen? ⟨p,0,none⟩=false∧w.frozen? ⟨p,1,none⟩=false∧zs.length≤1073741824∧Bytes zs ∧
 ((w.cell? ⟨p,0,none⟩=some (.slice none 0 0)∧zs=[]) ∨
  ∃ off cap,D≠p∧w.cell? ⟨p,0,none⟩=some (.slice (some ⟨D,off,none⟩) zs.length cap)∧zs.length≤cap∧cap≤maxLen∧Row w (some ⟨D,off,none⟩) zs.length zs)
theorem Rd.but {S:Nat→Prop} {w w':World} {p D:Nat} {zs:List Int} {short:Bool} (h:Rd w p D zs short) (hb:But S w w') (hp:¬ S p) (hd:¬ S D):Rd w' p D zs short:=by
 obtain ⟨h1,h2,h3,h4,h5,h6⟩:=h
 have hlt:p < w.heap.size:=World.block_lt_of_cell? w ⟨p,1,none⟩ h1
 have c0:=hb.cell (p:=⟨p,0,none⟩) hlt hp
 have c1:=hb.cell (p:=⟨p,1,none⟩) hlt hp
 refine ⟨c1.trans h1,(hb.frozen (p:=⟨p,0,none⟩) hlt hp).trans h2,(hb.frozen (p:=⟨p,1,none⟩) hlt hp).trans h3,h4,h5,?_⟩
 rcases h6 with ⟨h6,h7⟩|⟨off,cap,hbp,hc,hl,hm,hr⟩
 ·exact .inl ⟨c0.trans h6,h7⟩
 ·exact .inr ⟨off,cap,hbp,c0.trans hc,hl,hm,hr.but hb (fun q hq hn=>by injection hq with hq;subst hq;exact hd)⟩
end Go.Proofs.YtgjofinbdigmcaaGreat.Pack
end
section
namespace Go.Proofs.YtgjofinbdigmcaaGreat.Pack
open Go.Proofs.YtgjofinbdigmcaaGreat.Mem
open Go.ChangeShapes Go.WideShapes Go.ChangeAt Go.RowKit
def Rf (w:World) (q bd:Nat) (zs:List Int) (short:Bool):Prop :=
 ∃ (B:List Int) (at':Nat) (a:Option Addr) (cap:Nat),w.cell? ⟨q,0,none⟩=some (.slice a B.length cap)∧w.cell? ⟨q,1,none⟩=some (.int .i64 (at':Int))∧w.cell? ⟨q,2,none⟩=some (.bool short) ∧
  w.frozen? ⟨q,1,none⟩=false∧w.frozen? ⟨q,2,none⟩=false∧Row w a B.length B∧B.length≤cap∧cap≤maxLen∧B.length≤1073741824∧at'≤B.length∧(∀ p,a=some p→0 < B.length→p.block≠q∧p.block < bd) ∧
  (a=none→cap=0)∧((short=true∧zs=[])∨(short=false∧zs=B.drop at'))
end Go.Proofs.YtgjofinbdigmcaaGreat.Pack
end
section
namespace Go.Proofs.YtgjofinbdigmcaaGreat.Pack
open Go.Proofs.YtgjofinbdigmcaaGreat.Mem
open Go.ChangeShapes Go.WideShapes Go.ChangeAt Go.RowKit
theorem Rf.but {S:Nat→Prop} {w w':World} {q bd:Nat} {zs:List Int} {short:Bool} (h:Rf w q bd zs short) (hb:But S w w') (hq:¬ S q) (hd:∀ k,k < bd→¬ S k):Rf w' q bd zs short:=by
 obtain ⟨B,at',a,cap,h0,h1,h2,f1,f2,hr,hlc,hcm,hB,hat,hne,hnil,hz⟩:=h
 have hlt:q < w.heap.size:=World.block_lt_of_cell? w ⟨q,1,none⟩ h1
 exact ⟨B,at',a,cap,(hb.cell (p:=⟨q,0,none⟩) hlt hq).trans h0,(hb.cell (p:=⟨q,1,none⟩) hlt hq).trans h1,(hb.cell (p:=⟨q,2,none⟩) hlt hq).trans h2,(hb.frozen (p:=⟨q,1,none⟩) hlt hq).trans f1,(hb.frozen (p:=⟨q,2,none⟩) hlt hq).trans f2,
  hr.but hb (fun p hp hn=>hd _ (hne p hp hn).2),hlc,hcm,hB,hat,hne,hnil,hz⟩
end Go.Proofs.YtgjofinbdigmcaaGreat.Pack
end
section
namespace Go.Proofs.YtgjofinbdigmcaaGreat.Pack
open Go.Proofs.YtgjofinbdigmcaaGreat.Mem
open Go.ChangeShapes Go.WideShapes Go.ChangeAt Go.RowKit
theorem Rd.below {w w':World} {p D:Nat} {zs:List Int} {short:Bool} (h:Rd w p D zs short) (hb:Below w.heap.size w w'):Rd w' p D zs short:=by
 refine h.but (S:=fun _=>False) ((But.of_below hb).mono (fun i hi hs=>by omega)) (fun h=>h) (fun h=>h)
theorem Rf.below {w w':World} {q bd:Nat} {zs:List Int} {short:Bool} (h:Rf w q bd zs short) (hb:Below w.heap.size w w'):Rf w' q bd zs short:=by
 refine h.but (S:=fun _=>False) ((But.of_below hb).mono (fun i hi hs=>by omega)) (fun h=>h) (fun _ _ h=>h)
theorem Rf.short {w:World} {q bd:Nat} {zs:List Int} {short:Bool} (h:Rf w q bd zs short):w.cell? ⟨q,2,none⟩=some (.bool short):=by
 obtain ⟨B,at',a,cap,h0,h1,h2,_⟩:=h
 exact h2
theorem Row.part {w:World} {b off len:Nat} {zs:List Int} (h:Row w (some ⟨b,off,none⟩) len zs) (i k:Nat) (hik:i+k≤len) (a:Option Addr) (ha:0 < k→a=some ⟨b,off+i,none⟩):Row w a k ((zs.drop i).take k):=by
 have hl:((zs.drop i).take k).length=k:=by rw [List.length_take,List.length_drop,h.1];omega
 refine ⟨hl,bytes_take (bytes_drop h.2.1 i) k,fun h0=>?_⟩
 obtain ⟨b',o,hq,hlt,hc⟩:=h.2.2 (by omega)
 injection hq with hq
 injection hq with hq1 hq2
 subst hq1 hq2
 refine ⟨b,off+i,ha h0,hlt,fun j hj=>?_⟩
 have:=hc (i+j) (by omega)
 rw [← Nat.add_assoc] at this
 rw [this]
 simp [List.getD,List.getElem?_drop,hj]
end Go.Proofs.YtgjofinbdigmcaaGreat.Pack
end

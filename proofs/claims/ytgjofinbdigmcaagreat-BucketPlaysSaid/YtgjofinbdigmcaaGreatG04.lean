/- Rows of entries: one is written, one is read; new tables. Contract of the program's grow: the table is laid anew in twice as many places. -/
import Derived.Test.YtgjofinbdigmcaaGreatG03
import Derived.Deep.MidRow
set_option linter.unusedSimpArgs false
set_option linter.unusedVariables false
set_option maxHeartbeats 2000000
set_option maxRecDepth 100000
section
namespace Go.Proofs.YtgjofinbdigmcaaGreat.Key
open Go.Proofs.YtgjofinbdigmcaaGreat.Mem Go.Proofs.YtgjofinbdigmcaaGreat.Fnv
open Go.ChangeShapes Go.WideShapes Go.ChangeAt Go.RowKit
theorem blk_setCells {g:Nat} {t:TypeId}:∀ {vs A B C:List Value} {w:World},Blk w g t (A++B++C).toArray→B.length=vs.length→Blk (w.setCells g A.length vs) g t (A++vs++C).toArray
 | [],A,B,C,w,h,hl=>by
  have:B=[]:=List.eq_nil_of_length_eq_zero (by simpa using hl)
  subst this
  exact h
 | v :: vs,A,[],C,w,h,hl=>by simp at hl
 | v :: vs,A,b :: B,C,w,h,hl=>by
  rw [World.setCells]
  have h1:=h.set_ A.length v
  have e:((A++b :: B++C).toArray.setIfInBounds A.length v)=((A++[v])++B++C).toArray:=by
   simp [List.append_assoc]
  rw [e] at h1
  have:=blk_setCells (vs:=vs) (A:=A++[v]) (B:=B) (C:=C) h1 (by simpa using hl)
  simpa [List.append_assoc] using this
theorem but_setCells (g:Nat):∀ (vs:List Value) (o:Nat) (w:World),But (fun k=>k=g) w (w.setCells g o vs)
 | [],o,w=>But.refl _ w
 | v :: vs,o,w=>by
  rw [World.setCells]
  exact ((But.refl (fun k=>k=g) w).setCell (p:=⟨g,o,none⟩) rfl v).trans' (but_setCells g vs (o+1) _)
theorem flat_split {α:Type} {f:α→List Value} {l:List α} {i:Nat} {x:α} (h:l[i]?=some x):l.flatMap f=(l.take i).flatMap f++f x++(l.drop (i+1)).flatMap f:=by
 obtain ⟨hi,rfl⟩:=List.getElem?_eq_some_iff.1 h
 have e:l=l.take i++l[i] :: l.drop (i+1):=by rw [← List.drop_eq_getElem_cons hi,List.take_append_drop]
 have e2:=congrArg (fun l=>l.flatMap f) e
 simp only [List.flatMap_append,List.flatMap_cons] at e2
 rw [List.append_assoc]
 exact e2
theorem flat_set {α:Type} {f:α→List Value} {l:List α} {i:Nat} (y:α) (hi:i < l.length):(l.set i y).flatMap f=(l.take i).flatMap f++f y++(l.drop (i+1)).flatMap f:=by
 have e:l.set i y=l.take i++y :: l.drop (i+1):=List.set_eq_take_append_cons_drop.trans (by rw [if_pos hi])
 rw [e]
 simp [List.flatMap_append,List.append_assoc]
theorem blk_put {α:Type} {f:α→List Value} {k:Nat} (hf:∀ x,(f x).length=k) {w:World} {g:Nat} {t:TypeId} {l:List α} {i:Nat} (h:Blk w g t (l.flatMap f).toArray) (hi:i < l.length) (y:α):Blk (w.setCells g (i * k) (f y)) g t ((l.set i y).flatMap f).toArray:=by
 have hx:l[i]?=some l[i]:=List.getElem?_eq_getElem hi
 rw [flat_split hx] at h
 have:=blk_setCells (vs:=f y) h (by rw [hf,hf])
 rw [flat_length hf,List.length_take,Nat.min_eq_left (by omega)] at this
 rw [flat_set y hi]
 exact this
theorem blk_range {α:Type} {f:α→List Value} {k:Nat} (hf:∀ x,(f x).length=k) {w:World} {g:Nat} {t:TypeId} {l:List α} {i:Nat} {x:α} (h:Blk w g t (l.flatMap f).toArray) (hi:l[i]?=some x):w.rangeAt g (i * k) (f x):=by
 intro j v hv
 have hj:j < k:=by rw [← hf x];exact (List.getElem?_eq_some_iff.1 hv).1
 rw [h.cell,List.getElem?_toArray,flat_get hf hi hj]
 exact hv
theorem blk_there {α:Type} {f:α→List Value} {k:Nat} (hf:∀ x,(f x).length=k) {w:World} {g:Nat} {t:TypeId} {l:List α} {i:Nat} (h:Blk w g t (l.flatMap f).toArray) (hi:i < l.length):w.there g (i * k) k:=by
 intro j hj
 refine ⟨?_,h.frozen _⟩
 have:=(blk_range hf h (List.getElem?_eq_getElem hi)).isSome j (by rw [hf];exact hj)
 exact this
theorem row_range {w:World} {g:Nat} {t:TypeId} {T:Tab} {i:Nat} (h:Blk w g t (rowT T).toArray) (hi:i < T.length):w.rangeAt g (i * 8) (pcells (look T i)):=blk_range pcells_length h (look_some hi)
theorem row_put {w:World} {g:Nat} {t:TypeId} {T:Tab} {i:Nat} (h:Blk w g t (rowT T).toArray) (hi:i < T.length) (o:Option Ent):Blk (w.setCells g (i * 8) (pcells o)) g t (rowT (T.set i o)).toArray:=blk_put pcells_length h hi o
theorem row_there {w:World} {g:Nat} {t:TypeId} {T:Tab} {i:Nat} (h:Blk w g t (rowT T).toArray) (hi:i < T.length):w.there g (i * 8) 8:=blk_there pcells_length h hi
theorem place_size:(Tryz.prog.info? 118).map (·.size)=some 8:=by kernel_rfl
theorem entry_size:(Tryz.prog.info? 45).map (·.size)=some 7:=by kernel_rfl
theorem ecells_one (e:Ent):∀ v ∈ ecells e,v.oneCell'=true:=by
 intro v hv
 simp only [ecells,List.mem_cons,List.not_mem_nil,or_false] at hv
 rcases hv with rfl|rfl|rfl|rfl|rfl|rfl|rfl <;> rfl
theorem pcells_one (o:Option Ent):∀ v ∈ pcells o,v.oneCell'=true:=by
 intro v hv
 rw [pcells_eq] at hv
 rcases List.mem_cons.1 hv with rfl|h
 ·rfl
 ·exact ecells_one _ v h
def ev (e:Ent):Value := .agg (ecells e).toArray
def pv (o:Option Ent):Value := .agg (pcells o).toArray
theorem blk_there0 {w:World} {g n:Nat} {t:TypeId} {cs:List Value} (h:Blk w g t cs.toArray) (hn:cs.length=n):w.there g 0 n:=by
 intro j hj
 refine ⟨?_,h.frozen _⟩
 rw [h.cell,List.getElem?_toArray,Nat.zero_add,List.getElem?_eq_getElem (by omega)]
 rfl
theorem blk_set0 {w:World} {g:Nat} {t:TypeId} {cs vs:List Value} (h:Blk w g t cs.toArray) (hl:cs.length=vs.length):Blk (w.setCells g 0 vs) g t vs.toArray:=by
 have:=blk_setCells (vs:=vs) (A:=[]) (B:=cs) (C:=[]) (w:=w) (g:=g) (t:=t) (by simpa using h) hl
 simpa using this
theorem blk_range0 {w:World} {g:Nat} {t:TypeId} {A B:List Value} (h:Blk w g t (A++B).toArray):w.rangeAt g A.length B:=by
 intro j v hv
 rw [h.cell,List.getElem?_toArray,List.getElem?_append_right (by omega),Nat.add_sub_cancel_left]
 exact hv
theorem ecells_length (e:Ent):(ecells e).length=7:=rfl
theorem yields_place {ops:Array Oper} {S:World→Prop} {op:Oper} {a:Act} (hw:Region.wanted op (yielded ops a.tmps)=true) (x:Operand) (ho:op.op = .load 118 x) (b o:Nat) (hx:a.eval x = .pointer (some ⟨b,o,none⟩)) (q:Option Ent) (hS:∀ w,S w→w.rangeAt b o (pcells q)):YieldsIf Tryz.prog ops S op (pv q) a :=
 yieldsIf_load_mid hw _ x ho b o hx (pcells q) _ hS Tryz.underlying118 rfl (by rw [pcells_length];exact place_size)
theorem yields_entry {ops:Array Oper} {S:World→Prop} {op:Oper} {a:Act} (hw:Region.wanted op (yielded ops a.tmps)=true) (x:Operand) (ho:op.op = .load 45 x) (b o:Nat) (hx:a.eval x = .pointer (some ⟨b,o,none⟩)) (q:Ent) (hS:∀ w,S w→w.rangeAt b o (ecells q)):YieldsIf Tryz.prog ops S op (ev q) a :=
 yieldsIf_load_mid hw _ x ho b o hx (ecells q) _ hS Tryz.underlying45 rfl (by rw [ecells_length];exact entry_size)
theorem box_range {w:World} {g:Nat} {t:TypeId} {o:Option Ent} (h:Blk w g t (pcells o).toArray):w.rangeAt g 0 (pcells o):=blk_range0 (A:=[]) h
theorem box_entry {w:World} {g:Nat} {t:TypeId} {o:Option Ent} (h:Blk w g t (pcells o).toArray):w.rangeAt g 1 (ecells (ent o)):=blk_range0 (A:=[.bool o.isSome]) (by rw [pcells_eq] at h;exact h)
theorem ent_range {w:World} {g:Nat} {t:TypeId} {e:Ent} (h:Blk w g t (ecells e).toArray):w.rangeAt g 0 (ecells e):=blk_range0 (A:=[]) h
theorem wp_store_blk {ops:Array Oper} {op:Oper} {a:Act} {w:World} {K:Act→World→Prop} {Q:Exit→Act→World→Prop} {E:Prop} (hwd:Region.wanted op (yielded ops a.tmps)=true) (ty:TypeId) (x y:Operand) (ho:op.op = .store ty x y)
  (b o:Nat) (vs:List Value) (hx:a.eval x = .pointer (some ⟨b,o,none⟩)) (hy:a.eval y = .agg vs.toArray)
  (ht:w.there b o vs.length) (hi:(Tryz.prog.info? ty).map (·.size)=some vs.length) (h1:∀ v ∈ vs,v.oneCell'=true)
  (h:K (a.put op.dst undef) (w.setCells b o vs)):if Region.wanted op (yielded ops a.tmps)=true then Oper.wp Tryz.prog op a w K Q else E:=by
 rw [if_pos hwd]
 exact wp_store_mid ty x y ho b o vs.toArray hx hy (by simpa using ht) (by simpa using hi) (all_oneCell_toArray h1) (by simpa using h)
theorem made_flat {α:Type} {f:α→List Value} {k:Nat} (hk:0 < k) (hf:∀ x,(f x).length=k) (x:α) (m:Nat) (z:Array Value) (hz:z=(f x).toArray):madeCells z (m * k)=((List.replicate m x).flatMap f).toArray:=by
 have hs:z.size=k:=by rw [hz,List.size_toArray,hf]
 apply Array.ext
 ·rw [size_madeCells,List.size_toArray,flat_length hf,List.length_replicate]
 ·intro j h1 h2
  rw [size_madeCells] at h1
  have hd:j / k < m:=Nat.div_lt_of_lt_mul (by rw [Nat.mul_comm];exact h1)
  have hm:j % k < k:=Nat.mod_lt _ hk
  have hg:=flat_get (f:=f) hf (l:=List.replicate m x) (i:=j / k) (j:=j % k) (x:=x) (by simp [List.getElem?_replicate,hd]) hm
  rw [show j / k * k+j % k=j by rw [Nat.mul_comm];exact Nat.div_add_mod j k] at hg
  rw [List.getElem?_eq_getElem (by simpa using h2),List.getElem?_eq_getElem (by rw [hf];exact hm)] at hg
  injection hg with hg
  rw [show ((List.replicate m x).flatMap f).toArray[j]=(f x)[j % k]'(by rw [hf];exact hm) from (List.getElem_toArray ..).trans hg]
  simp only [madeCells,Array.getElem_map,Array.getElem_range,hs]
  subst hz
  rw [getElem!_pos _ _ (by rw [List.size_toArray,hf];exact hm)]
  simp
theorem run_make_flat {P:Program} (w:World) (t e:TypeId) (z:Value) (k bytes:Nat) (h1:P.underlying t=some (.slice e)) (h2:(P.info? e).map (fun i=>(i.zero,i.size,i.bytes))=some (some z,k,bytes))
  {α:Type} (f:α→List Value) (x:α) (hk:0 < k) (hf:∀ x,(f x).length=k) (hz:z.cells=(f x).toArray) (n:Nat) (hb:bytes * n≤281474976710656) (hn:n≤1000000000) :
  (Instr.makeSlice t (.int .i64 (n:Int)) (.int .i64 (n:Int))).run P w = .ok (.slice (some ⟨w.heap.size,0,none⟩) n n) (w.alloc (.cells ((List.replicate n x).flatMap f).toArray e)):=by
 obtain ⟨i,hi,hzz⟩:=Option.map_eq_some_iff.1 h2
 simp only [Prod.mk.injEq] at hzz
 obtain ⟨hz0,hz1,hz2⟩:=hzz
 have hb':(i.bytes:Int) * (n:Int)≤281474976710656:=by
  have h:((i.bytes * n:Nat):Int)≤281474976710656:=by rw [hz2];omega
  rwa [Int.natCast_mul] at h
 have:=run_make (P:=P) w t e i z h1 hi hz0 .i64 .i64 n n (by omega) (by omega) hb' (by omega)
 rw [this,Int.toNat_natCast,hz1,made_flat hk hf x n _ hz]
theorem wpList_make_flat {P:Program} {w:World} {ops:Array Oper} {rest:List Oper} {o:Oper} {a:Act} {Q:Exit→Act→World→Prop}
  (hg:o.guard=none) (l c:Operand) (t:TypeId) (hop:o.op=Op.makeSlice t l c) (e:TypeId) (z:Value) (k bytes:Nat) (h1:P.underlying t=some (.slice e)) (h2:(P.info? e).map (fun i=>(i.zero,i.size,i.bytes))=some (some z,k,bytes))
  {α:Type} (f:α→List Value) (x:α) (hk:0 < k) (hf:∀ x,(f x).length=k) (hz:z.cells=(f x).toArray) (N C:Int) (n:Nat) (hl:a.eval l = .int .i64 N) (hc:a.eval c = .int .i64 C) (hN:N=(n:Int)) (hC:C=(n:Int)) (hb:bytes * n≤281474976710656) (hn:n≤1000000000)
  (hK:wpList P ops Q rest (a.put o.dst (.slice (some ⟨w.heap.size,0,none⟩) n n)) (w.alloc (.cells ((List.replicate n x).flatMap f).toArray e))) :
  wpList P ops Q (o :: rest) a w:=by
 refine wpList_plain hg fun K hK'=>?_
 subst hN
 subst hC
 unfold Oper.wp
 simp [execOp,hop,hl,hc,run_make_flat w t e z k bytes h1 h2 f x hk hf hz n hb hn,Result.andThen]
 exact hK' _ _ hK
theorem place_info:(Tryz.prog.info? 118).map (fun i=>(i.zero,i.size,i.bytes))=some (some (.agg (pcells none).toArray),8,72):=by kernel_rfl
end Go.Proofs.YtgjofinbdigmcaaGreat.Key
end
section
namespace Go.Proofs.YtgjofinbdigmcaaGreat.Key
open Go.Proofs.YtgjofinbdigmcaaGreat.Mem Go.Proofs.YtgjofinbdigmcaaGreat.Fnv
open Go.ChangeShapes Go.WideShapes Go.ChangeAt Go.RowKit
theorem World.setCell_size (w:World) (a:Addr) (v:Value):(w.setCell a v).heap.size=w.heap.size:=by simp [World.setCell]
theorem Good.part {T:Tab} {i k:Nat} (h:Good T i) (ht:tight T) (hk:k≤T.length):Good (part T (2 * T.length) k) i:=by
 have h8:=h.eight
 obtain ⟨k1,k2,k3,k4⟩:=part_all h.wf (m:=2 * T.length) (by have:=h.load;omega) k hk
 have hc:=cnt_take_le T k
 obtain ⟨j,h1,h2⟩:=h.pow
 have hf:=h.few
 have hl:=h.load
 unfold tight at ht
 exact ⟨k1,⟨j+1,by omega,by rw [k2,h2,Nat.pow_succ];omega⟩,by omega,by omega,by omega⟩
theorem part_mem {T:Tab} {i k:Nat} (h:Good T i) (hk:k≤T.length) {e:Ent} (he:some e ∈ part T (2 * T.length) k):some e ∈ T:=by
 obtain ⟨k1,k2,k3,k4⟩:=part_all h.wf (m:=2 * T.length) (by have:=h.load;have:=h.eight;omega) k hk
 obtain ⟨j,_,hj⟩:=(k3 e).1 he
 exact look_mem.2 ⟨j,hj⟩
theorem part_len {T:Tab} {i k:Nat} (h:Good T i) (hk:k≤T.length):(part T (2 * T.length) k).length=2 * T.length:=(part_all h.wf (m:=2 * T.length) (by have:=h.load;have:=h.eight;omega) k hk).2.1
section
variable {w:World} {p g i kn:Nat} {T:Tab}
theorem KAt.step {w:World} {p g i kn:Nat} {T:Tab} (h:KAt w p g T i kn) {j:Nat} (hj:j < T.length) (o:Option Ent) (hg:Good (T.set j o) i) (hs:∀ e,o=some e→e.key.size≤200) :
  KAt (w.setCells g (j * 8) (pcells o)) p g (T.set j o) i kn where
 blk:=by
  rw [List.length_set]
  exact h.blk.but (but_setCells g _ _ w) (fun e=>h.blk.ne_ h.row (by decide) e)
 row:=row_put h.row hj o
 good:=hg
 small:=fun e he=>by
  rcases List.mem_or_eq_of_mem_set he with h1|h1
  ·exact h.small e h1
  ·exact hs e h1.symm
 few:=h.few
theorem kgrow_any (h:KAt w p g T i kn) (ht:tight T) :
  Calls Tryz.prog 80 #[.pointer (some ⟨p,0,none⟩)] w fun e w'=>e = .returned (.tuple #[])∧∃ g',KAt w' p g' (again T (2 * T.length)) i kn∧w.heap.size≤g'∧But (fun k=>k=p) w w':=by
 obtain ⟨l1,l2⟩:=h.lt
 have hpg:p≠g:=h.blk.ne_ h.row (by decide)
 have c0:w.cell? ⟨p,0,none⟩=some (.slice (some ⟨g,0,none⟩) T.length T.length):=h.blk.cell 0
 have hw1:∀ m,m=2 * T.length→KAt ((w.setCell ⟨p,0,none⟩ (.slice (some ⟨w.heap.size,0,none⟩) m m)).alloc (.cells (rowT (List.replicate m none)).toArray 118)) p w.heap.size (part T m 0) i kn∧But (fun k=>k=p) w ((w.setCell ⟨p,0,none⟩ (.slice (some ⟨w.heap.size,0,none⟩) m m)).alloc (.cells (rowT (List.replicate m none)).toArray 118)):=by
  rintro m rfl
  have hlt:=h.blk.lt
  have hg:=h.good.part ht (Nat.zero_le _)
  have hb:=(But.refl (fun k=>k=p) w).setCell (p:=⟨p,0,none⟩) rfl (.slice (some ⟨w.heap.size,0,none⟩) (2 * T.length) (2 * T.length))
  have h1:=(h.blk.set_ 0 (.slice (some ⟨w.heap.size,0,none⟩) (2 * T.length) (2 * T.length))).but ((But.refl (fun _=>False) _).alloc (.cells (rowT (List.replicate (2 * T.length) none)).toArray 118)) (fun h=>h)
  refine ⟨⟨?_,?_,hg,fun e he=>h.small e (part_mem h.good (Nat.zero_le _) he),h.few⟩,hb.alloc _⟩
  ·rw [part_len h.good (Nat.zero_le _)]
   exact h1
  ·rw [part_zero]
   have h2:=Blk.new (w.setCell ⟨p,0,none⟩ (.slice (some ⟨w.heap.size,0,none⟩) (2 * T.length) (2 * T.length))) 118 (rowT (List.replicate (2 * T.length) none)).toArray
   rw [World.setCell_size] at h2
   exact h2
 have HK:=Lib.hid h
 have HT:=Lib.hid ht
 have HW1:=Lib.hid (hw1 _ rfl)
 have f0:w.frozen? ⟨p,0,none⟩=false:=h.blk.frozen 0
 have hplt:=h.blk.lt
 clear hw1 h ht
 obtain ⟨n,hn⟩:∃ n,n=T.length:=⟨_,rfl⟩
 have HN:=Lib.hid hn
 rw [← hn] at c0 l1 l2 HW1
 rw [← hn]
 clear hn
 go_enter Tryz.func80,Tryz.ntmps80
 go_wp2_with (at_make;refine wpList_make_flat rfl _ _ 92 rfl 118 _ 8 72 Tryz.underlying92 place_info pcells none (by omega) pcells_length rfl _ _ (2 * n) rfl rfl (by omega) (by omega) (by omega) (by omega) ?_)
 change Code.wp _ _ _ _ ((w.setCell ⟨p,0,none⟩ (.slice (some ⟨w.heap.size,0,none⟩) (2 * n) (2 * n))).alloc (.cells (rowT (List.replicate (2 * n) none)).toArray 118))
 obtain ⟨g',hg'⟩:∃ g',g'=w.heap.size:=⟨_,rfl⟩
 rw [← hg'] at HW1 ⊢
 generalize (w.setCell ⟨p,0,none⟩ (.slice (some ⟨g',0,none⟩) (2 * n) (2 * n))).alloc (.cells (rowT (List.replicate (2 * n) none)).toArray 118)=W1 at HW1 ⊢
 have HG:=Lib.hid hg'
 clear hg' c0 f0
 go_loopw [18] (fun x wr=>∃ k:Nat,k≤n∧x = .int .i64 (k:Int)∧KAt wr p g' (part T (2 * n) k) i kn∧But (fun k=>k=p) w wr) (fun x _=>n - (intOf x).toNat)
 case atStart=>exact ⟨0,by omega,rfl,HW1.out.1,HW1.out.2⟩
 case round =>
  obtain ⟨k,hk,rfl,hA,hB⟩:=hrel
  have hnn:=HN.out
  have HA:=Lib.hid hA
  have HB:=Lib.hid hB
  by_cases hlt:k < n
  ·have hkl:k < T.length:=by omega
   have hpart:=part_succ (T:=T) (m:=2 * n) hkl
   have hgood:=HK.out.good.part HT.out (k:=k+1) (by omega)
   have hplen:=part_len HK.out.good (k:=k) (by omega)
   have hsm:=fun e (he:look T k=some e)=>HK.out.small e (look_mem.2 ⟨k,he⟩)
   have hR:=row_range (HK.out.row.but HB.out (fun e=>HK.out.blk.ne_ HK.out.row (by decide) e.symm)) hkl
   rw [← hnn] at hgood hplen
   rw [hpart] at hgood
   have HSM:=Lib.hid hsm
   have HPA:=Lib.hid hpart
   have HGD:=Lib.hid hgood
   have HPL:=Lib.hid hplen
   have i0:(0:Int)≤(k:Int):=Int.natCast_nonneg _
   obtain ⟨q,hq⟩:∃ q,q=look T k:=⟨_,rfl⟩
   rw [← hq] at HPA HGD HSM hR
   have HQ:=Lib.hid hq
   have HR:=Lib.hid hR
   have HX:=Lib.hid (show Blk (wr.alloc (.cells (pcells none).toArray 118)) wr.heap.size 118 (pcells none).toArray from Blk.new _ _ _)
   have HX0:=Lib.hid (blk_set0 (vs:=pcells q) HX.out (by rw [pcells_length,pcells_length]))
   have hbb:But (fun k=>k=wr.heap.size) wr ((wr.alloc (.cells (pcells none).toArray 118)).setCells wr.heap.size 0 (pcells q)):=((But.refl (fun k=>k=wr.heap.size) wr).alloc _).trans' (but_setCells _ _ _ _)
   have HA1:=Lib.hid (HA.out.but hbb (fun e=>by have:=HA.out.blk.lt;omega) (fun e=>by have:=HA.out.row.lt;omega))
   have HB1:=Lib.hid (HB.out.trans hbb (fun j hj e=>by have:=HB.out.size;omega))
   have HY0:=Lib.hid (show ((wr.alloc (.cells (pcells none).toArray 118)).setCells wr.heap.size 0 (pcells q)).cell? ⟨wr.heap.size,0,none⟩=some (.bool q.isSome) from by rw [HX0.out.cell 0,pcells_eq];rfl)
   clear hA hB hsm hpart hgood hplen hq hnn hR hbb hkl
   cases q with
   | none =>
    go_wp2_with (first
     | (refine wpList_load_mid rfl 118 _ rfl g (k * 8) rfl (pcells none) _ HR.out Tryz.underlying118 rfl (by rw [pcells_length];exact place_size) ?_)
     | (refine wpList_store_mid rfl 118 _ _ rfl wr.heap.size 0 (pcells none).toArray rfl rfl (blk_there0 HX.out (by rw [pcells_length];simp [pcells_length])) (by simp only [List.size_toArray,pcells_length];exact place_size) (all_oneCell_toArray (pcells_one none)) ?_
        change wpList _ _ _ _ _ ((wr.alloc (.cells (pcells none).toArray 118)).setCells wr.heap.size 0 (pcells none))
        generalize (wr.alloc (.cells (pcells none).toArray 118)).setCells wr.heap.size 0 (pcells none)=W2 at HX0 HA1 HB1 HY0 ⊢
        have y0:=HY0.out))
    go_roundw
    case rel=>exact ⟨k+1,by omega,by go_num,by rw [part_none (by have:=HN.out;omega) HQ.out.symm];exact HA1.out,HB1.out⟩
    case measure=>simp [intOf];omega
   | some e =>
    go_wp2_with (first
     | (refine wpList_load_mid rfl 118 _ rfl g (k * 8) rfl (pcells (some e)) _ HR.out Tryz.underlying118 rfl (by rw [pcells_length];exact place_size) ?_)
     | (refine wpList_store_mid rfl 118 _ _ rfl wr.heap.size 0 (pcells (some e)).toArray rfl rfl (blk_there0 HX.out (by rw [pcells_length];simp [pcells_length])) (by simp only [List.size_toArray,pcells_length];exact place_size) (all_oneCell_toArray (pcells_one (some e))) ?_
        change wpList _ _ _ _ _ ((wr.alloc (.cells (pcells none).toArray 118)).setCells wr.heap.size 0 (pcells (some e)))
        obtain ⟨x,hx⟩:∃ x,x=wr.heap.size:=⟨_,rfl⟩
        rw [← hx] at HX0 HA1 HB1 HY0 ⊢
        clear hx HX
        generalize (wr.alloc (.cells (pcells none).toArray 118)).setCells x 0 (pcells (some e))=W2 at HX0 HA1 HB1 HY0 ⊢
        have y0:=HY0.out))
    clear y0 HY0 HA HB HR
    have HD:=Lib.hid ((But.refl (fun _=>False) W2).drew)
    have HA2:=Lib.hid (HA1.out.but HD.out (fun h=>h) (fun h=>h))
    have HX2:=Lib.hid (HX0.out.but HD.out (fun h=>h))
    have HB2:=Lib.hid (HB1.out.trans HD.out (fun j hj e=>e.elim))
    have HF:=Lib.hid (kfind_any HA2.out e.key (HSM.out e rfl))
    have hfl:=find_lt (show 0 < (part T (2 * n) k).length by rw [HPL.out];omega) e.key
    have hgd:Good ((part T (2 * n) k).set (find (part T (2 * n) k) e.key) (some e)) i:=HGD.out
    have HST:=Lib.hid (KAt.step HA2.out hfl (some e) hgd (fun f hf=>by injection hf with hf;subst hf;exact HSM.out e rfl))
    have HTH:=Lib.hid (row_there HA2.out.row hfl)
    have hcp:W2.drew.cell? ⟨p,0,none⟩=some (.slice (some ⟨g',0,none⟩) (2 * n) (2 * n)):=by have:=HA2.out.blk.cell 0;rw [HPL.out] at this;exact this
    have HCP:=Lib.hid hcp
    have HCX:=Lib.hid (show W2.drew.cell? ⟨x,1,none⟩=some (.string e.key) by rw [HX2.out.cell 1];rfl)
    rw [HPL.out] at hfl
    obtain ⟨m,hm⟩:∃ m,m=find (part T (2 * n) k) e.key:=⟨_,rfl⟩
    rw [← hm] at HF HST HTH hfl
    have HP2:=Lib.hid (show part T (2 * n) (k+1)=(part T (2 * n) k).set m (some e) by rw [HPA.out,hm];rfl)
    clear hm hgd hcp HA1 HX0 HB1
    have HNE:=Lib.hid (show g'≠p from fun e=>HA2.out.blk.ne_ HA2.out.row (by decide) e.symm)
    have hfi:(m:Int) < 2 * (n:Int):=by omega
    refine Late.region_goes (fun V=>V=W2.drew) (fun i=>i == 11) (by kernel_rfl) ?_ (fun hH=>?_)
    ·rfl
    refine Late.Goes.takeT (i:=0) (v:=?_) (by simp only [List.getElem?_toArray,List.getElem?_cons_succ,List.getElem?_cons_zero];rfl) (by kernel_rfl) (by kernel_rfl) (by kernel_rfl) (by kernel_rfl) (by kernel_rfl) (by exact fun _ _ _ h=>h) (Or.inl ⟨by rfl,?_⟩) hH ?_
    rotate_left
    ·(intro wy hSw;(try dsimp only at hSw);subst hSw;have k0:=HCP.out;have k1:=HCX.out;go_simp;try (with_reducible rfl))
    try simp only [Act.put,List.setIfInBounds_toArray,List.set_cons_zero,List.set_cons_succ]
    refine Late.Goes.takeT (i:=1) (v:=?_) (by simp only [List.getElem?_toArray,List.getElem?_cons_succ,List.getElem?_cons_zero];rfl) (by kernel_rfl) (by kernel_rfl) (by kernel_rfl) (by kernel_rfl) (by kernel_rfl) (by exact fun _ _ _ h=>h) (Or.inl ⟨by rfl,?_⟩) hH ?_
    rotate_left
    ·(intro wy hSw;(try dsimp only at hSw);subst hSw;have k0:=HCP.out;have k1:=HCX.out;go_simp;try (with_reducible rfl))
    try simp only [Act.put,List.setIfInBounds_toArray,List.set_cons_zero,List.set_cons_succ]
    refine Late.Goes.takeT (i:=2) (v:=?_) (by simp only [List.getElem?_toArray,List.getElem?_cons_succ,List.getElem?_cons_zero];rfl) (by kernel_rfl) (by kernel_rfl) (by kernel_rfl) (by kernel_rfl) (by kernel_rfl) (by exact fun _ _ _ h=>h) (Or.inl ⟨by rfl,?_⟩) hH ?_
    rotate_left
    ·(intro wy hSw;(try dsimp only at hSw);subst hSw;have k0:=HCP.out;have k1:=HCX.out;go_simp;try (with_reducible rfl))
    try simp only [Act.put,List.setIfInBounds_toArray,List.set_cons_zero,List.set_cons_succ]
    refine Late.Goes.takeT (i:=3) (v:=?_) (by simp only [List.getElem?_toArray,List.getElem?_cons_succ,List.getElem?_cons_zero];rfl) (by kernel_rfl) (by kernel_rfl) (by kernel_rfl) (by kernel_rfl) (by kernel_rfl) (by exact fun _ _ _ h=>h) (Or.inl ⟨by rfl,?_⟩) hH ?_
    rotate_left
    ·(intro wy hSw;(try dsimp only at hSw);subst hSw;have k0:=HCP.out;have k1:=HCX.out;go_simp;try (with_reducible rfl))
    try simp only [Act.put,List.setIfInBounds_toArray,List.set_cons_zero,List.set_cons_succ]
    refine Late.Goes.takeT (i:=4) (v:=?_) (by simp only [List.getElem?_toArray,List.getElem?_cons_succ,List.getElem?_cons_zero];rfl) (by kernel_rfl) (by kernel_rfl) (by kernel_rfl) (by kernel_rfl) (by kernel_rfl) (by exact fun _ _ _ h=>h) (Or.inl ⟨by rfl,?_⟩) hH ?_
    rotate_left
    ·(intro wy hSw;(try dsimp only at hSw);subst hSw;have k0:=HCP.out;have k1:=HCX.out;go_simp;try (with_reducible rfl))
    try simp only [Act.put,List.setIfInBounds_toArray,List.set_cons_zero,List.set_cons_succ]
    refine Late.Goes.takeT (i:=5) (v:=?_) (by simp only [List.getElem?_toArray,List.getElem?_cons_succ,List.getElem?_cons_zero];rfl) (by kernel_rfl) (by kernel_rfl) (by kernel_rfl) (by kernel_rfl) (by kernel_rfl) (by exact fun _ _ _ h=>h) (Or.inl ⟨by rfl,?_⟩) hH ?_
    rotate_left
    ·(intro wy hSw;(try dsimp only at hSw);subst hSw;have k0:=HCP.out;have k1:=HCX.out;go_simp;try (with_reducible rfl))
    try simp only [Act.put,List.setIfInBounds_toArray,List.set_cons_zero,List.set_cons_succ]
    refine Late.Goes.takeT (i:=6) (v:=?_) (by simp only [List.getElem?_toArray,List.getElem?_cons_succ,List.getElem?_cons_zero];rfl) (by kernel_rfl) (by kernel_rfl) (by kernel_rfl) (by kernel_rfl) (by kernel_rfl) (by exact fun _ _ _ h=>h) (Or.inl ⟨by rfl,?_⟩) hH ?_
    rotate_left
    ·(intro wy hSw;(try dsimp only at hSw);subst hSw;have k0:=HCP.out;have k1:=HCX.out;go_simp;try (with_reducible rfl))
    try simp only [Act.put,List.setIfInBounds_toArray,List.set_cons_zero,List.set_cons_succ]
    refine Late.Goes.takeT (i:=7) (v:=?_) (by simp only [List.getElem?_toArray,List.getElem?_cons_succ,List.getElem?_cons_zero];rfl) (by kernel_rfl) (by kernel_rfl) (by kernel_rfl) (by kernel_rfl) (by kernel_rfl) (by exact fun _ _ _ h=>h) (Or.inl ⟨by rfl,?_⟩) hH ?_
    rotate_left
    ·(intro wy hSw;(try dsimp only at hSw);subst hSw;have k0:=HCP.out;have k1:=HCX.out;go_simp;try (with_reducible rfl))
    try simp only [Act.put,List.setIfInBounds_toArray,List.set_cons_zero,List.set_cons_succ]
    refine Late.Goes.takeT (i:=9) (v:=_) (by simp only [List.getElem?_toArray,List.getElem?_cons_succ,List.getElem?_cons_zero];rfl) (by kernel_rfl) (by kernel_rfl) (by kernel_rfl) (by kernel_rfl) (by kernel_rfl) (by exact fun _ _ _ h=>h) (yields_place (by rfl) _ rfl x 0 rfl (some e) (fun V hV=>by rw [hV];exact box_range HX2.out)) hH ?_
    try simp only [Act.put,List.setIfInBounds_toArray,List.set_cons_zero,List.set_cons_succ]
    refine Late.Goes.one (i:=8) (by kernel_rfl) (by simp only [List.getElem?_toArray,List.getElem?_cons_succ,List.getElem?_cons_zero];rfl) (fun K hK=>?_)
    clear hH
    go_simp
    go_at_call 69
    refine HF.out.mono ?_
    rintro e1 w1 ⟨rfl,rfl⟩
    refine hK.out _ _ ?_ (fun hH=>?_)
    ·exact fun _=>rfl
    clear hK K
    have hH:=hH rfl
    try simp only [Act.put,List.setIfInBounds_toArray,List.set_cons_zero,List.set_cons_succ]
    refine Late.Goes.takeT (i:=10) (v:=?_) (by simp only [List.getElem?_toArray,List.getElem?_cons_succ,List.getElem?_cons_zero];rfl) (by kernel_rfl) (by kernel_rfl) (by kernel_rfl) (by kernel_rfl) (by kernel_rfl) (by exact fun _ _ _ h=>h) (Or.inl ⟨by rfl,?_⟩) hH ?_
    rotate_left
    ·(intro wy hSw;(try dsimp only at hSw);subst hSw;have k0:=HCP.out;have k1:=HCX.out;go_simp;try (with_reducible rfl))
    try simp only [Act.put,List.setIfInBounds_toArray,List.set_cons_zero,List.set_cons_succ]
    refine Late.Goes.one (i:=11) (by kernel_rfl) (by simp only [List.getElem?_toArray,List.getElem?_cons_succ,List.getElem?_cons_zero];rfl) (fun K hK=>?_)
    clear hH
    refine wp_store_blk (by rfl) 118 _ _ rfl g' (m * 8) (pcells (some e)) rfl rfl (by rw [pcells_length];exact HTH.out) (by rw [pcells_length];exact place_size) (pcells_one _) ?_
    refine hK.out _ _ ?_ (fun _=>?_)
    ·exact fun h=>by cases h
    clear hK K
    try simp only [Act.put,List.setIfInBounds_toArray,List.set_cons_zero,List.set_cons_succ]
    refine Late.Goes.done (by kernel_rfl) ?_ _
    go_wp2_with fail
    go_roundw
    case rel=>exact ⟨k+1,by omega,by go_num,by rw [HP2.out];exact HST.out,HB2.out.trans (but_setCells g' _ _ _) (fun j hj e=>by have:=HG.out;omega)⟩
    case measure=>simp [intOf];omega
  ·have hkn:k=T.length:=by omega
   have HE:=Lib.hid (show KAt wr p g' (again T (2 * n)) i kn by rw [again,← hkn];exact hA)
   clear hA HA
   go_wp2_with fail
   go_end0
   exact ⟨rfl,g',HE.out,by have:=HG.out;omega,HB.out⟩
end
end Go.Proofs.YtgjofinbdigmcaaGreat.Key
end

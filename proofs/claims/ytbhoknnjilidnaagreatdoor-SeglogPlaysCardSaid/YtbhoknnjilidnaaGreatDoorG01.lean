/- Words for memory of this project: a slice that shows its cells (nil let in), an append onto a row of the call's own from such a slice, and slices of bytes. More words for memory: what a call may have turned ('But': all blocks but those of a set are as they were), a row of the call's own that is appended to ('Onto'), and strings of bytes. Errors of api's own type: how they lie in an error, and what == says of two. A region that draws its order, with a fact of the world that holds behind each of its operations but the late ones: those that wait for whatever is taken first by that fact (a statement's own store, which comes last). So loads of the very cell that the statement writes may be taken first. -/
import Derived.Below
import Derived.Laws.OwnMore
import Derived.Maps.AppendAt
import Derived.OwnWalk
import Derived.ProofKit
import Derived.Laws.BytesArg
import Derived.Laws.IdiomStrings
import Derived.Lib.AppendStr
import Derived.Deep.Draws
import Derived.Test.YtbhoknnjilidnaaGreatDoorProg
import Derived.WalkKit
import Derived.Outline
import Derived.WalkSpells
import Derived.WalkLawsBesides
import Derived.LoopTactic
import Derived.Lib.Hide
import Derived.Deep.RegionHeld
set_option linter.unusedVariables false
set_option maxHeartbeats 1000000
set_option maxRecDepth 100000
section
namespace Go.Proofs.YtbhoknnjilidnaaGreatDoor.Mem
open Go.RowKit
def Sees (w:World) (size:Nat) (v:Value) (n:Nat) (cs:List Value):Prop :=
 (v = .slice none 0 0∧n=0∧cs=[]) ∨
 ∃ p c,v = .slice (some p) n c∧cs.length=n * size∧∀ j u,cs[j]?=some u→p.block < w.heap.size∧w.cell? (p.add j)=some u
theorem block_add (p:Addr) (j:Nat):(p.add j).block=p.block:=by
 unfold Addr.add
 split <;> rfl
theorem Sees.below {w w':World} {size n:Nat} {v:Value} {cs:List Value} (h:Sees w size v n cs) (hb:Below w.heap.size w w'):Sees w' size v n cs:=by
 rcases h with h|⟨p,c,hv,hl,hc⟩
 ·exact .inl h
 ·refine .inr ⟨p,c,hv,hl,fun j u hu=>?_⟩
  obtain ⟨h1,h2⟩:=hc j u hu
  exact ⟨Nat.lt_of_lt_of_le h1 hb.size,(hb.cell (p:=p.add j) (by rw [block_add];exact h1)).trans h2⟩
def Bytes (zs:List Int):Prop:=∀ z ∈ zs,0≤z∧z≤255
def Row (w:World) (a:Option Addr) (len:Nat) (zs:List Int):Prop :=
 zs.length=len∧Bytes zs∧(0 < len→∃ b off,a=some ⟨b,off,none⟩∧b < w.heap.size∧∀ i,i < len→w.cell? ⟨b,off+i,none⟩=some (.int .u8 (zs.getD i 0)))
def cellsOf (zs:List Int):List Value:=zs.map (Value.int .u8)
theorem cellsOf_append (xs ys:List Int):cellsOf (xs++ys)=cellsOf xs++cellsOf ys:=by simp [cellsOf]
theorem cellsOf_length (xs:List Int):(cellsOf xs).length=xs.length:=by simp [cellsOf]
theorem cellsOf_one (xs:List Int):∀ u ∈ cellsOf xs,u.oneCell'=true:=by
 intro u hu
 simp only [cellsOf,List.mem_map] at hu
 obtain ⟨z,_,rfl⟩:=hu
 rfl
theorem cellsOf_get {xs:List Int} {j:Nat} (h:j < xs.length):(cellsOf xs)[j]?=some (.int .u8 (xs.getD j 0)):=by
 simp [cellsOf,List.getD,h]
theorem bytes_append {xs ys:List Int} (hx:Bytes xs) (hy:Bytes ys):Bytes (xs++ys):=by
 intro z hz
 rcases List.mem_append.mp hz with h|h
 ·exact hx z h
 ·exact hy z h
theorem bytes_nil:Bytes []:=by
 intro z hz
 cases hz
theorem getD_byte {zs:List Int} (h:Bytes zs) {i:Nat} (hi:i < zs.length):0≤zs.getD i 0∧zs.getD i 0≤255:=by
 have:zs.getD i 0=zs[i]:=by simp [List.getD,hi]
 rw [this];exact h _ (List.getElem_mem hi)
theorem bytes_take {zs:List Int} (h:Bytes zs) (k:Nat):Bytes (zs.take k):=fun z hz=>h z (List.mem_of_mem_take hz)
theorem bytes_drop {zs:List Int} (h:Bytes zs) (k:Nat):Bytes (zs.drop k):=fun z hz=>h z (List.mem_of_mem_drop hz)
theorem take_snoc (zs:List Int) (k:Nat) (h:k < zs.length):zs.take (k+1)=zs.take k++[zs.getD k 0]:=by
 rw [List.take_succ_eq_append_getElem h];simp [List.getD,h]
section
variable {w w':World} {a:Option Addr} {len:Nat} {zs:List Int}
theorem Row.nil:Row w a 0 []:=⟨rfl,bytes_nil,fun h=>absurd h (by omega)⟩
theorem Row.below (h:Row w a len zs) (hb:Below w.heap.size w w'):Row w' a len zs:=by
 refine ⟨h.1,h.2.1,fun hn=>?_⟩
 obtain ⟨b,off,rfl,hlt,hc⟩:=h.2.2 hn
 exact ⟨b,off,rfl,Nat.lt_of_lt_of_le hlt hb.size,fun i hi=>(hb.cell (p:=⟨b,off+i,none⟩) hlt).trans (hc i hi)⟩
theorem add_none (b off i:Nat):(⟨b,off,none⟩:Addr).add i=⟨b,off+i,none⟩:=by
 unfold Addr.add
 split
 ·next h=>subst h;rfl
 ·rfl
theorem Row.sees {cap:Nat} (h:Row w a len zs) (hnil:a=none→cap=0):Sees w 1 (.slice a len cap) len (cellsOf zs):=by
 rcases a with _|p
 ·rcases Nat.eq_zero_or_pos len with h0|h0
  ·subst h0
   have hz:zs=[]:=List.eq_nil_of_length_eq_zero h.1
   rw [hnil rfl,hz]
   exact .inl ⟨rfl,rfl,rfl⟩
  ·obtain ⟨b,off,hn,_⟩:=h.2.2 h0
   cases hn
 ·refine .inr ⟨p,cap,rfl,by rw [cellsOf_length,h.1,Nat.mul_one],fun j u hu=>?_⟩
  have hj:j < zs.length:=by
   rcases Nat.lt_or_ge j zs.length with h1|h1
   ·exact h1
   ·rw [List.getElem?_eq_none (by rw [cellsOf_length];exact h1)] at hu
    cases hu
  have hjl:j < len:=by rw [← h.1];exact hj
  obtain ⟨b,off,hp,hlt,hc⟩:=h.2.2 (by omega)
  injection hp with hp
  subst hp
  rw [cellsOf_get hj] at hu
  exact ⟨hlt,by rw [add_none,hc j hjl];exact hu⟩
theorem Row.of_own {base n:Nat} {e:TypeId} {v:Value} {xs:List Int} (hown:w.ownsRow base e 1 v n (cellsOf xs)) (hb:Bytes xs) :
  ∃ a cap,v = .slice a n cap∧Row w a n xs∧cap≤maxLen∧n≤cap∧(0 < n→∃ g,a=some ⟨g,0,none⟩∧base≤g):=by
 have hl:xs.length=n:=by have:=hown.1;rw [cellsOf_length] at this;omega
 rcases hown.2 with ⟨rfl,rfl⟩|⟨g,cap,cur,rfl,hg,hh,hnc,hcm,hcs,ht⟩
 ·exact ⟨none,0,rfl,⟨hl,hb,fun h=>absurd h (by omega)⟩,by simp,by omega,fun h=>absurd h (by omega)⟩
 ·refine ⟨some ⟨g,0,none⟩,cap,rfl,⟨hl,hb,fun hn=>⟨g,0,rfl,?_,fun i hi=>?_⟩⟩,hcm,hnc,fun _=>⟨g,rfl,hg⟩⟩
  ·exact (hown.lt g rfl).2
  ·have h1:=hown.cellAt i (by omega)
   rw [Nat.zero_add,h1,cellsOf_get (by omega)]
end
end Go.Proofs.YtbhoknnjilidnaaGreatDoor.Mem
end
section
namespace Go.Proofs.YtbhoknnjilidnaaGreatDoor.Mem
open Go.RowKit
structure But (S:Nat→Prop) (w w':World):Prop where
 os:w'.os=w.os
 tape:w'.tape=w.tape
 output:w'.output=w.output
 size:w.heap.size≤w'.heap.size
 block:∀ k,k < w.heap.size→¬ S k→w'.heap[k]?=w.heap[k]?
section
variable {S T:Nat→Prop} {a b c w w':World}
theorem But.refl (S:Nat→Prop) (w:World):But S w w:=⟨rfl,rfl,rfl,Nat.le_refl _,fun _ _ _=>rfl⟩
theorem But.trans (h:But S a b) (k:But T b c) (hT:∀ i,i < a.heap.size→T i→S i):But S a c :=
 ⟨k.os.trans h.os,k.tape.trans h.tape,k.output.trans h.output,Nat.le_trans h.size k.size,
  fun i hi hs=>(k.block i (Nat.lt_of_lt_of_le hi h.size) (fun ht=>hs (hT i hi ht))).trans (h.block i hi hs)⟩
theorem But.trans' (h:But S a b) (k:But S b c):But S a c:=h.trans k (fun _ _ hs=>hs)
theorem But.mono (h:But S w w') (hS:∀ i,i < w.heap.size→S i→T i):But T w w' :=
 ⟨h.os,h.tape,h.output,h.size,fun i hi ht=>h.block i hi (fun hs=>ht (hS i hi hs))⟩
theorem But.drew (h:But S a w):But S a w.drew:=⟨h.os,h.tape,h.output,h.size,h.block⟩
theorem But.alloc (h:But S a w) (o:Obj):But S a (w.alloc o) :=
 h.trans' ⟨rfl,rfl,rfl,by simp,fun k hk _=>Below.heap_alloc _ _ _ hk⟩
theorem But.setCell (h:But S a w) {p:Addr} (hp:S p.block) (u:Value):But S a (w.setCell p u) :=
 h.trans' ⟨rfl,rfl,rfl,by simp,fun k _ hk=>Below.heap_setCell _ _ _ _ (fun e=>hk (e ▸ hp))⟩
theorem But.cell (h:But S w w') {p:Addr} (hp:p.block < w.heap.size) (hs:¬ S p.block):w'.cell? p=w.cell? p:=World.cell?_of_block (w:=w) (h.block p.block hp hs)
theorem But.frozen (h:But S w w') {p:Addr} (hp:p.block < w.heap.size) (hs:¬ S p.block):w'.frozen? p=w.frozen? p:=World.frozen?_of_block (w:=w) (h.block p.block hp hs)
theorem But.below {B:Nat} (h:But S w w') (hB:B≤w.heap.size) (hS:∀ k,S k→B≤k):Below B w w' :=
 ⟨h.os,h.tape,h.output,h.size,fun k hk=>h.block k (by omega) (fun hs=>by have:=hS k hs;omega)⟩
theorem But.of_below {B:Nat} (h:Below B w w'):But (fun k=>B≤k) w w' :=
 ⟨h.os,h.tape,h.output,h.size,fun k _ hk=>h.block k (by omega)⟩
theorem But.of_new (h:Below w.heap.size w w'):But S w w':=(But.of_below h).mono (fun i hi hs=>by omega)
theorem But.new (h:But (fun _=>False) w w'):Below w.heap.size w w':=h.below (Nat.le_refl _) (fun k hk=>hk.elim)
theorem But.of_grown {row:Option Nat} (h:w.grownBy w' row):But (fun k=>some k=row) w w':=⟨h.os,h.tape,h.output,h.size,h.block⟩
theorem Row.but {x:Option Addr} {len:Nat} {zs:List Int} (h:Row w x len zs) (hb:But S w w') (hs:∀ p,x=some p→0 < len→¬ S p.block):Row w' x len zs:=by
 refine ⟨h.1,h.2.1,fun hn=>?_⟩
 obtain ⟨b,off,rfl,hlt,hc⟩:=h.2.2 hn
 exact ⟨b,off,rfl,Nat.lt_of_lt_of_le hlt hb.size,fun i hi=>(hb.cell (p:=⟨b,off+i,none⟩) hlt (hs ⟨b,off,none⟩ rfl hn)).trans (hc i hi)⟩
end
structure Onto (w w':World) (v v':Value):Prop where
 grown:w.grownBy w' v.ownBlock
 own:v'.ownBlock=v.ownBlock∨∀ k,v'.ownBlock=some k→w.heap.size≤k
section
variable {w w' w'':World} {v v' v'':Value}
theorem Onto.refl (w:World) (v:Value):Onto w w v v:=⟨World.grownBy.refl w _,.inl rfl⟩
theorem Onto.but (h:Onto w w' v v'):But (fun k=>some k=v.ownBlock) w w' := .of_grown h.grown
theorem Onto.trans (h:Onto w w' v v') (k:Onto w' w'' v' v''):Onto w w'' v v'':=by
 have hs:=h.grown.size
 refine ⟨⟨k.grown.os.trans h.grown.os,k.grown.tape.trans h.grown.tape,k.grown.output.trans h.grown.output,Nat.le_trans hs k.grown.size,fun i hi hne=>?_⟩,?_⟩
 ·refine (k.grown.block i (by omega) (fun e=>?_)).trans (h.grown.block i hi hne)
  rcases h.own with h1|h1
  ·exact hne (e.trans h1)
  ·have:=h1 i e.symm;omega
 ·rcases k.own with k1|k1
  ·rcases h.own with h1|h1
   ·exact .inl (k1.trans h1)
   ·exact .inr (fun i e=>h1 i (k1.symm.trans e))
  ·exact .inr (fun i e=>by have:=k1 i e;omega)
theorem Onto.below {base n:Nat} {e:TypeId} {size:Nat} {xs:List Value} (h:Onto w w' v v') (ho:w.ownsRow base e size v n xs) (hb:base≤w.heap.size):Below base w w' :=
 (Below.refl base w).grown h.grown hb (fun k hk=>(ho.lt k hk).1)
theorem Onto.of_alloc {o:Obj} (h:Onto (w.alloc o) w' v v') (hv:∀ k,v.ownBlock=some k→k < w.heap.size):Onto w w' v v':=by
 refine ⟨⟨h.grown.os,h.grown.tape,h.grown.output,by have:=h.grown.size;simp at this;omega,fun k hk hne=>(h.grown.block k (by simp;omega) hne).trans (Below.heap_alloc _ _ _ hk)⟩,?_⟩
 rcases h.own with h1|h1
 ·exact .inl h1
 ·exact .inr (fun k e=>by have:=h1 k e;simp at this;omega)
end
theorem ownsRow_alloc {w:World} {base:Nat} {e:TypeId} {size:Nat} {v:Value} {n:Nat} {xs:List Value} (h:w.ownsRow base e size v n xs) (o:Obj):(w.alloc o).ownsRow base e size v n xs:=by
 refine ⟨h.1,?_⟩
 rcases h.2 with h2|⟨g,cap,cur,hv,hg,hh,r⟩
 ·exact .inl h2
 ·refine .inr ⟨g,cap,cur,hv,hg,?_,r⟩
  have hlt:g < w.heap.size:=by
   rcases Nat.lt_or_ge g w.heap.size with h3|h3
   ·exact h3
   ·rw [Array.getElem?_eq_none h3] at hh;cases hh
  rw [Below.heap_alloc _ _ _ hlt];exact hh
theorem ownsRow_but {S:Nat→Prop} {w w':World} {base:Nat} {e:TypeId} {size:Nat} {v:Value} {n:Nat} {xs:List Value} (h:w.ownsRow base e size v n xs) (hb:But S w w') (hs:∀ k,v.ownBlock=some k→¬ S k):w'.ownsRow base e size v n xs:=by
 refine ⟨h.1,?_⟩
 rcases h.2 with h2|⟨g,cap,cur,hv,hg,hh,r⟩
 ·exact .inl h2
 ·refine .inr ⟨g,cap,cur,hv,hg,?_,r⟩
  have hlt:g < w.heap.size:=by
   rcases Nat.lt_or_ge g w.heap.size with h3|h3
   ·exact h3
   ·rw [Array.getElem?_eq_none h3] at hh;cases hh
  subst hv
  rw [hb.block g hlt (hs g rfl)];exact hh
theorem wpList_append_onto {P:Program} {w:World} {ops:Array Oper} {rest:List Oper} {o:Oper} {a:Act} {Q:Exit→Act→World→Prop} (hgd:o.guard=none) (s x:Operand) (t:TypeId)
  (ho:o.op = .call { callee := .builtin .append,args := #[s,x],argTypes := #[t,t] })
  (base:Nat) (e:TypeId) (i:TypeInfo) (z:Value) (size bytes:Nat) (ht:P.underlying t=some (.slice e)) (hi:P.info? e=some i) (hz:i.zero=some z)
  (hsize:i.size=size) (hby:i.bytes=bytes) (hzs:z.cells.size=size) (hpos:0 < size)
  (v:Value) (n:Nat) (xs:List Value) (hs:a.eval s=v) (hown:w.ownsRow base e size v n xs)
  (y:Value) (m:Nat) (ys:List Value) (hx:a.eval x=y) (hy:Sees w size y m ys) (hone:∀ u ∈ ys,u.oneCell'=true)
  (hlen:n+m≤maxLen) (hroom:(n+m) * bytes≤140737488355328) (hbase:base≤w.heap.size)
  (h:∀ v' w',w'.ownsRow base e size v' (n+m) (xs++ys)→Onto w w' v v'→wpList P ops Q rest (a.put o.dst v') w'):wpList P ops Q (o :: rest) a w:=by
 have hrun:∃ v' w',(Builtin.append_ #[t,t] o.type #[v,y]).run P w = .ok v' w'∧w'.ownsRow base e size v' (n+m) (xs++ys)∧Onto w w' v v':=by
  rcases hy with ⟨rfl,rfl,rfl⟩|⟨p,c,rfl,hl,hc⟩
  ·exact ⟨v,w,run_append_owned_none w base t o.type e i size ht hi v n xs hown,by simpa using hown,Onto.refl w v⟩
  ·obtain ⟨v',w',h1,h2,h3,_,h5⟩:=run_append_own_at (P:=P) w base t o.type e i z size bytes ht hi hz hsize hby hzs hpos v n xs hown p m c ys hl (fun j u hu=>(hc j u hu).2) hone hlen hroom hbase
   refine ⟨v',w',h1,h2,h3,?_⟩
   rcases h5 with h5|h5
   ·exact .inl h5
   ·exact .inr (fun k hk=>by rw [h5] at hk;injection hk with hk;omega)
 obtain ⟨v',w',h1,h2,h3⟩:=hrun
 refine wpList_plain hgd fun K hK=>?_
 unfold Oper.wp execOp
 simp only [ho,resolve,invoke,builtin,Sem.run_bind,Sem.run_pure,Result.andThen_ok,List.map_toArray,List.map_cons,List.map_nil,hs,hx,h1]
 exact hK _ _ (h v' w' h2 h3)
theorem step_append_onto {P:Program} {w:World} {ops:Array Oper} {o:Oper} {a:Act} {K:Act→World→Prop} {Q:Exit→Act→World→Prop} {E:Prop} (hw:Region.wanted o (yielded ops a.tmps)=true) (s x:Operand) (t:TypeId)
  (ho:o.op = .call { callee := .builtin .append,args := #[s,x],argTypes := #[t,t] })
  (base:Nat) (e:TypeId) (i:TypeInfo) (z:Value) (size bytes:Nat) (ht:P.underlying t=some (.slice e)) (hi:P.info? e=some i) (hz:i.zero=some z)
  (hsize:i.size=size) (hby:i.bytes=bytes) (hzs:z.cells.size=size) (hpos:0 < size)
  (v:Value) (n:Nat) (xs:List Value) (hs:a.eval s=v) (hown:w.ownsRow base e size v n xs)
  (y:Value) (m:Nat) (ys:List Value) (hx:a.eval x=y) (hy:Sees w size y m ys) (hone:∀ u ∈ ys,u.oneCell'=true)
  (hlen:n+m≤maxLen) (hroom:(n+m) * bytes≤140737488355328) (hbase:base≤w.heap.size)
  (h:∀ v' w',w'.ownsRow base e size v' (n+m) (xs++ys)→Onto w w' v v'→K (a.put o.dst v') w'):if Region.wanted o (yielded ops a.tmps)=true then Oper.wp P o a w K Q else E:=by
 rw [if_pos hw]
 have hrun:∃ v' w',(Builtin.append_ #[t,t] o.type #[v,y]).run P w = .ok v' w'∧w'.ownsRow base e size v' (n+m) (xs++ys)∧Onto w w' v v':=by
  rcases hy with ⟨rfl,rfl,rfl⟩|⟨p,c,rfl,hl,hc⟩
  ·exact ⟨v,w,run_append_owned_none w base t o.type e i size ht hi v n xs hown,by simpa using hown,Onto.refl w v⟩
  ·obtain ⟨v',w',h1,h2,h3,_,h5⟩:=run_append_own_at (P:=P) w base t o.type e i z size bytes ht hi hz hsize hby hzs hpos v n xs hown p m c ys hl (fun j u hu=>(hc j u hu).2) hone hlen hroom hbase
   refine ⟨v',w',h1,h2,h3,?_⟩
   rcases h5 with h5|h5
   ·exact .inl h5
   ·exact .inr (fun k hk=>by rw [h5] at hk;injection hk with hk;omega)
 obtain ⟨v',w',h1,h2,h3⟩:=hrun
 unfold Oper.wp execOp
 simp only [ho,resolve,invoke,builtin,Sem.run_bind,Sem.run_pure,Result.andThen_ok,List.map_toArray,List.map_cons,List.map_nil,hs,hx,h1]
 exact h v' w' h2 h3
theorem own_shape {w:World} {base n:Nat} {e:TypeId} {v:Value} {xs:List Int} (h:w.ownsRow base e 1 v n (cellsOf xs)) (hb:Bytes xs) :
  ∃ a cap,v = .slice a n cap∧Row w a n xs∧n=xs.length∧((a=none∧cap=0∧n=0)∨∃ g,a=some ⟨g,0,none⟩∧base≤g∧g < w.heap.size∧n≤cap∧cap≤maxLen):=by
 obtain ⟨a,cap,hv,hr,hc1,hc2,_⟩:=Row.of_own h hb
 refine ⟨a,cap,hv,hr,hr.1.symm,?_⟩
 rcases h.2 with ⟨h1,h2⟩|⟨g,cap',cur,h1,h2,h3,h4,h5,h6,h7⟩
 ·rw [hv] at h1
  injection h1 with h1 h3 h4
  exact .inl ⟨h1,h4,h2⟩
 ·have:=h.lt g (by rw [h1];rfl)
  rw [hv] at h1
  injection h1 with h1 h8 h9
  exact .inr ⟨g,h1,h2,this.2,hc2,hc1⟩
theorem sees_one (w:World) (u:Value) (e:TypeId) (fr:Nat × Nat):Sees (w.alloc (.cells #[u] e fr)) 1 (.slice (some ⟨w.heap.size,0,none⟩) 1 1) 1 [u]:=by
 refine .inr ⟨_,_,rfl,rfl,fun j x hx=>?_⟩
 have hj:j=0:=by
  rcases j with _|j
  ·rfl
  ·simp at hx
 subst hj
 refine ⟨by simp,?_⟩
 rw [add_none,Nat.add_zero,World.cell?_alloc_mark]
 simpa using hx
def strBytes (s:ByteArray):List Int:=s.data.toList.map fun b=>(b.toNat:Int)
theorem strBytes_length (s:ByteArray):(strBytes s).length=s.size:=by
 unfold strBytes
 rw [List.length_map,Array.length_toList]
 rfl
theorem strBytes_bytes (s:ByteArray):Bytes (strBytes s):=by
 intro z hz
 simp only [strBytes,List.mem_map] at hz
 obtain ⟨b,_,rfl⟩:=hz
 have:=b.toNat_lt
 omega
theorem strOf_strBytes (s:ByteArray):strOfNums (strBytes s)=s:=by
 apply ByteArray.ext
 apply Array.toList_inj.1
 rw [strOfNums_data,strBytes,List.map_map]
 conv=>rhs;rw [← List.map_id s.data.toList]
 apply List.map_congr_left
 intro x _
 simp
theorem strBytes_strOf {zs:List Int} (h:Bytes zs):strBytes (strOfNums zs)=zs:=by
 unfold strBytes
 rw [strOfNums_data,List.map_map]
 conv=>rhs;rw [← List.map_id zs]
 apply List.map_congr_left
 intro z hz
 have:=h z hz
 simp
 omega
theorem strCells_eq (s:ByteArray):Lib.strCells s=cellsOf (strBytes s):=by
 simp [Lib.strCells,cellsOf,strBytes]
theorem wpList_append_str_grown {P:Program} {w:World} {ops:Array Oper} {rest:List Oper} {o:Oper} {a:Act} {Q:Exit→Act→World→Prop} (hgd:o.guard=none) (s x:Operand) (t u:TypeId)
  (ho:o.op = .call { callee := .builtin .append,args := #[s,x],argTypes := #[t,u] })
  (base:Nat) (e:TypeId) (i:TypeInfo) (ht:P.underlying t=some (.slice e)) (hu:P.underlying u=some .string) (hi:P.info? e=some i) (hz:i.zero=some (.int .u8 0))
  (hsize:i.size=1) (hby:i.bytes=1)
  (v:Value) (n:Nat) (xs:List Value) (hs:a.eval s=v) (hown:w.ownsRow base e 1 v n xs)
  (y:ByteArray) (hx:a.eval x = .string y)
  (hlen:n+y.size≤maxLen) (hroom:n+y.size≤140737488355328) (hbase:base≤w.heap.size)
  (h:∀ v' w',w'.ownsRow base e 1 v' (n+y.size) (xs++cellsOf (strBytes y))→w.grownBy w' v.ownBlock→wpList P ops Q rest (a.put o.dst v') w'):wpList P ops Q (o :: rest) a w:=by
 obtain ⟨v',w',h1,h2,h3,_⟩:=Lib.run_append_own_string (P:=P) w base t u o.type e i ht hu hi hz hsize hby v n xs hown y hlen hroom hbase
 rw [strCells_eq] at h2
 refine wpList_plain hgd fun K hK=>?_
 unfold Oper.wp execOp
 simp only [ho,resolve,invoke,builtin,Sem.run_bind,Sem.run_pure,Result.andThen_ok,List.map_toArray,List.map_cons,List.map_nil,hs,hx,h1]
 exact hK _ _ (h v' w' h2 h3)
theorem run_string_row {P:Program} {w:World} {a:Option Addr} {len:Nat} {zs:List Int} (h:Row w a len zs) (src e dst:TypeId) (hs:P.underlying src=some (.slice e)) (he:P.underlying e=some (.int .u8)) (hd:P.underlying dst=some .string) (cap:Nat) :
  (convert src dst (.slice a len cap)).run P w = .ok (.string (strOfNums zs)) w:=by
 rcases Nat.eq_zero_or_pos len with h0|h0
 ·subst h0
  have hz:zs=[]:=List.eq_nil_of_length_eq_zero h.1
  subst hz
  rcases a with _|p
  ·rw [run_convert_bytes_nil w src e hs he 0 cap dst hd];rfl
  ·rw [run_convert_bytes_string w src dst e _ 0 cap hs he hd,run_bytesToString w p 0 cap [] ?_]
   ·rfl
   ·have:=run_loadCells_list (P:=P) w p [] (fun j v hj=>by simp at hj)
    simpa using this
 ·obtain ⟨b,off,rfl,_,hc⟩:=h.2.2 h0
  exact run_convert_bytes_arg w src e hs he b off len cap zs h.1 hc dst hd
end Go.Proofs.YtbhoknnjilidnaaGreatDoor.Mem
end
section
namespace Go.Proofs.YtbhoknnjilidnaaGreatDoor.Err
open Go.Proofs.YtbhoknnjilidnaaGreatDoor.Mem
open Go.ChangeShapes Go.WideShapes Go.ChangeAt Go.RowKit
def errV (c:Int):Value:=if c=0 then .nilIface else .iface 33 (.int .i64 c)
theorem errV_zero:errV 0 = .nilIface:=rfl
theorem errV_some {c:Int} (h:c≠0):errV c = .iface 33 (.int .i64 c):=if_neg h
theorem code_same:∃ i,Tryz.prog.info? 33=some i∧i.comparable=true:=by
 have h:(Tryz.prog.info? 33).map (fun i=>i.comparable)=some true:=by kernel_rfl
 obtain ⟨i,hi,hc⟩:=Option.map_eq_some_iff.1 h
 exact ⟨i,hi,hc⟩
theorem code_deep (d:Nat) (a b:Int) (w:World):(Op.equalIn (d+1+1) 30 (.iface 33 (.int .i64 a)) (.iface 33 (.int .i64 b))).run Tryz.prog w = .ok (a == b) w:=by
 obtain ⟨i,hi,hc⟩:=code_same
 unfold Op.equalIn
 simp [Op.equalIn,run_underlying Tryz.underlying30,run_underlying Tryz.underlying33,typeInfo,hi,hc]
theorem code_equal (a b:Int) (w:World):(Op.equal 30 (.iface 33 (.int .i64 a)) (.iface 33 (.int .i64 b))).run Tryz.prog w = .ok (a == b) w:=code_deep 9998 a b w
theorem code_eql (a b:Int) (w:World):(binOp .eql 30 (.iface 33 (.int .i64 a)) (.iface 33 (.int .i64 b))).run Tryz.prog w = .ok (.bool (a == b)) w:=by
 simp [binOp,code_equal]
theorem code_neq (a b:Int) (w:World):(binOp .neq 30 (.iface 33 (.int .i64 a)) (.iface 33 (.int .i64 b))).run Tryz.prog w = .ok (.bool (!(a == b))) w:=by
 simp [binOp,code_equal]
theorem code_nil (w:World):Calls Tryz.prog 16 #[.nilIface] w fun e w'=>e = .returned (.int .i64 0)∧w=w':=by
 go_enter Tryz.func16,Tryz.ntmps16
 go_wp2
 go_ret
 exact ⟨rfl,rfl⟩
theorem code_some (c:Int) (h1:1≤c) (h2:c≤15) (w:World):Calls Tryz.prog 16 #[.iface 33 (.int .i64 c)] w fun e w'=>e = .returned (.int .i64 c)∧w=w':=by
 have ke:=code_eql
 go_enter Tryz.func16,Tryz.ntmps16
 go_wp2
 go_loop [3] (fun i=>∃ k:Int,1≤k∧k≤c∧i = .int .i64 k) (fun i=>(16 - intOf i).toNat)
 case atStart=>exact ⟨1,by omega,h1,rfl⟩
 case round =>
  obtain ⟨k,hk1,hk2,rfl⟩:=hrel
  have hk3:k≤15:=by omega
  by_cases hck:c=k
  ·have hb:(c == k)=true:=by simpa using hck
   have HCK:=Lib.hid hck
   clear hck
   go_wp2
   go_ret
   exact ⟨by rw [HCK.out];rfl,rfl⟩
  ·have hb:(c == k)=false:=by simpa using hck
   clear hck
   go_wp2
   go_round
   case rel =>
    have:¬ c=k:=by simpa using hb
    exact ⟨k+1,by omega,by omega,rfl⟩
   case measure=>simp [intOf];omega
end Go.Proofs.YtbhoknnjilidnaaGreatDoor.Err
end
section
namespace Go.Proofs.YtbhoknnjilidnaaGreatDoor.Late
section
variable {P:Program} {ops:Array Oper} {Q:Exit→Act→World→Prop} {S:World→Prop} {late:Nat→Bool}
def Goes (P:Program) (ops:Array Oper) (Q:Exit→Act→World→Prop) (S:World→Prop) (late:Nat→Bool):Nat→Array Bool→Act→World→Prop
 | 0,li,a,w=>Region.ready .any ops li=[]∧Q .normal a w
 | n+1,li,a,w=>(Region.ready .any ops li=[]→Q .normal a w) ∧
   ∀ j,j ∈ Region.ready .any ops li→wpOp P ops Q j (fun b u=>(late j=false→S u)∧Goes P ops Q S late n (li.setIfInBounds j true) b u) a w
theorem Goes.any:∀ {n:Nat} {li:Array Bool} {a:Act} {w:World},Goes P ops Q S late n li a w→wpAny P .any ops Q n li a w
 | 0,_,_,_,h=>h
 | _+1,_,_,_,h=>⟨h.1,fun j hj=>wpOp_mono (fun _ _ k=>k.2.any) (h.2 j hj)⟩
def waits (ops:Array Oper) (late:Nat→Bool) (i:Nat):Bool :=
 (List.range ops.size).all fun j=>j == i || !late j || ((ops[j]?.map fun o=>o.after.any fun e=>Region.binds .any e && e.on == i).getD true)
theorem waits_spec {i j:Nat} {o:Oper} (h:waits ops late i=true) (hj:ops[j]?=some o) (hne:j≠i) (hl:late j=true):∃ e ∈ o.after,Region.binds .any e=true∧e.on=i:=by
 have h1:=List.all_eq_true.1 h j (List.mem_range.2 (Array.getElem?_eq_some_iff.1 hj).1)
 simp only [hj,hl,Option.map_some,Option.getD_some,Bool.not_true,Bool.or_false,Bool.or_eq_true,beq_iff_eq] at h1
 obtain ⟨k,hk,h2⟩:∃ k,∃ h:k < o.after.size,Region.binds .any o.after[k]=true∧o.after[k].on=i:=by simpa using h1.resolve_left hne
 exact ⟨_,Array.getElem_mem hk,h2⟩
theorem unbound {i j:Nat} {o:Oper} {li:Array Bool} (hi:i ∈ Region.ready .any ops li) (hj:j ∈ Region.ready .any ops li) (ho:ops[j]?=some o):∀ e ∈ o.after,Region.binds .any e=true→e.on≠i:=by
 intro e he hb heq
 obtain ⟨_,o',ho',hall⟩:=mem_ready.1 hj
 rw [ho] at ho'
 injection ho' with ho'
 subst ho'
 have h1:=hall e he hb
 have h0:=(mem_ready.1 hi).1
 rw [heq] at h1
 simp only [Array.getD_eq_getD_getElem?] at h0 h1
 cases hk:li[i]? with
 | none=>rw [hk] at h1;cases h1
 | some b =>
  rw [hk] at h0 h1
  simp only [Option.getD_some] at h0 h1
  rw [h0] at h1;cases h1
theorem Goes.first {i:Nat} {oi:Oper} {v:Value} (hi:ops[i]?=some oi) (hs:Region.noSelect ops=true) (hw:waits ops late i=true) (hQ:∀ c a w,Q (.panic c) (a.put oi.dst v) w→Q (.panic c) a w) (n:Nat) :
  ∀ (li:Array Bool) (a:Act) (w:World),(∀ j o,ops[j]?=some o→j≠i→li.getD j true=false→(∀ e ∈ o.after,Region.binds .any e=true→e.on≠i)→oi.apart ops o=true) →
   i ∈ Region.ready .any ops li→YieldsIf P ops S oi v a→S w→Goes P ops Q S late n (li.setIfInBounds i true) (a.put oi.dst v) w→Goes P ops Q S late (n+1) li a w:=by
 induction n with
 | zero =>
  intro li a w _ hr hy hS H
  refine ⟨fun h=>absurd hr (by rw [h];exact List.not_mem_nil),fun j hj=>?_⟩
  by_cases e:j=i
  ·rw [e];exact hy.wpOp hi hS ⟨fun _=>hS,H⟩
  ·have:=ready_mono hj e
   rw [H.1] at this
   cases this
 | succ n ih =>
  intro li a w hfr hr hy hS H
  refine ⟨fun h=>absurd hr (by rw [h];exact List.not_mem_nil),fun j hj=>?_⟩
  by_cases e:j=i
  ·rw [e];exact hy.wpOp hi hS ⟨fun _=>hS,H⟩
  ·obtain ⟨hun,o,ho,_⟩:=mem_ready.1 hj
   have hub:=unbound hr hj ho
   have hnl:late j=false:=by
    cases hl:late j with
    | false=>rfl
    | true =>
     obtain ⟨x,hx,hb,hx2⟩:=waits_spec hw ho e hl
     exact (hub x hx hb hx2).elim
   have k:=wpOp_putIf ho (hfr j o ho e hun hub) (fun cs b=>Region.noSelect_spec hs i oi cs b hi) (fun cs b=>Region.noSelect_spec hs j o cs b ho) hQ hy (H.2 j (ready_mono hj e))
   refine wpOp_mono (fun b u k2=>⟨k2.2.1,ih _ b u (fun x ox hx hne hx2 hx3=>hfr x ox hx hne ?_ hx3) (ready_mono hr (Ne.symm e)) k2.1 (k2.2.1 hnl) ?_⟩) k
   ·by_cases e2:j=x
    ·exact e2 ▸ hun
    ·rwa [getD_set_ne true e2] at hx2
   ·rw [Array.setIfInBounds_comm _ _ e]
    exact k2.2.2
theorem Goes.take {i:Nat} {oi:Oper} {v:Value} {n:Nat} {li:Array Bool} {a:Act} {w:World} (hi:ops[i]?=some oi) (hs:Region.noSelect ops=true) (hf:Region.free .any ops li i=true) (hr:(Region.ready .any ops li).contains i=true)
  (hw:waits ops late i=true) (hQ:∀ c a w,Q (.panic c) (a.put oi.dst v) w→Q (.panic c) a w) (hy:YieldsIf P ops S oi v a) (hS:S w)
  (h:Goes P ops Q S late n (li.setIfInBounds i true) (a.put oi.dst v) w):Goes P ops Q S late (n+1) li a w :=
 Goes.first hi hs hw hQ n li a w (Region.free_spec hi hf) (by simpa using hr) hy hS h
def Closed (ops:Array Oper) (li:Array Bool):Prop:=∀ j o,ops[j]?=some o→li.getD j false=true→∀ e ∈ o.after,Region.binds .any e=true→li.getD e.on false=true
def closed (ops:Array Oper) (li:Array Bool):Bool :=
 (List.range ops.size).all fun j => !(li.getD j false) || ((ops[j]?.map fun o=>o.after.all fun e => !(Region.binds .any e) || li.getD e.on false).getD true)
theorem closed_spec {li:Array Bool} (h:closed ops li=true):Closed ops li:=by
 intro j o hj hl e he hb
 have h1:=List.all_eq_true.1 h j (List.mem_range.2 (Array.getElem?_eq_some_iff.1 hj).1)
 simp only [hj,hl,Option.map_some,Option.getD_some,Bool.not_true,Bool.false_or] at h1
 obtain ⟨k,hk,rfl⟩:=Array.mem_iff_getElem.1 he
 have h2:∀ i (h:i < o.after.size),(!(Region.binds .any o.after[i]) || li.getD o.after[i].on false)=true:=by simpa using h1
 have h3:=h2 k hk
 rw [hb] at h3
 simpa using h3
def dep (ops:Array Oper) (i:Nat):Nat→Nat→Bool
 | 0,_=>false
 | n+1,j=>(ops[j]?.map fun o=>o.after.any fun e=>Region.binds .any e && (e.on == i || dep ops i n e.on)).getD false
theorem dep_spec {i:Nat} {li:Array Bool} (hc:Closed ops li) (hi:li.getD i false=false):∀ (n j:Nat) (o:Oper),ops[j]?=some o→dep ops i n j=true→∃ e ∈ o.after,Region.binds .any e=true∧li.getD e.on false=false
 | 0,j,o,hj,h=>by cases h
 | n+1,j,o,hj,h=>by
  unfold dep at h
  rw [hj] at h
  simp only [Option.map_some,Option.getD_some] at h
  obtain ⟨k,hk,h1,h2⟩:∃ k,∃ h:k < o.after.size,Region.binds .any o.after[k]=true∧(o.after[k].on=i∨dep ops i n o.after[k].on=true):=by simpa using h
  refine ⟨_,Array.getElem_mem hk,h1,?_⟩
  rcases h2 with h2|h2
  ·rw [h2];exact hi
  ·cases hq:ops[o.after[k].on]? with
   | none =>
    cases n with
    | zero=>cases h2
    | succ n=>unfold dep at h2;rw [hq] at h2;cases h2
   | some o' =>
    obtain ⟨e,he,hb,h3⟩:=dep_spec hc hi n _ o' hq h2
    cases h4:li.getD o.after[k].on false with
    | false=>rfl
    | true=>rw [hc _ o' hq h4 e he hb] at h3;cases h3
def waitsT (ops:Array Oper) (late:Nat→Bool) (i:Nat):Bool:=(List.range ops.size).all fun j=>j == i || !late j || dep ops i 12 j
theorem ready_done {j:Nat} {o:Oper} {li:Array Bool} (hj:j ∈ Region.ready .any ops li) (ho:ops[j]?=some o):∀ e ∈ o.after,Region.binds .any e=true→li.getD e.on false=true:=by
 intro e he hb
 obtain ⟨_,o',ho',hall⟩:=mem_ready.1 hj
 rw [ho] at ho'
 injection ho' with ho'
 subst ho'
 exact hall e he hb
theorem closed_set {j:Nat} {li:Array Bool} (hc:Closed ops li) (hj:j ∈ Region.ready .any ops li):Closed ops (li.setIfInBounds j true):=by
 have hup:∀ k,li.getD k false=true→(li.setIfInBounds j true).getD k false=true:=by
  intro k hk
  simp only [Array.getD_eq_getD_getElem?,Array.getElem?_setIfInBounds] at hk ⊢
  split
  ·split
   ·rfl
   ·rename_i h1 h2
    rw [← h1,Array.getElem?_eq_none (by omega)] at hk
    cases hk
  ·exact hk
 intro k o ho hk e he hb
 by_cases hkj:k=j
 ·subst hkj
  exact hup _ (ready_done hj ho e he hb)
 ·refine hup _ (hc k o ho ?_ e he hb)
  simp only [Array.getD_eq_getD_getElem?,Array.getElem?_setIfInBounds,if_neg (Ne.symm hkj)] at hk ⊢
  exact hk
theorem Goes.firstT {i:Nat} {oi:Oper} {v:Value} (hi:ops[i]?=some oi) (hs:Region.noSelect ops=true) (hw:waitsT ops late i=true) (hQ:∀ c a w,Q (.panic c) (a.put oi.dst v) w→Q (.panic c) a w) (n:Nat) :
  ∀ (li:Array Bool) (a:Act) (w:World),Closed ops li→(∀ j o,ops[j]?=some o→j≠i→li.getD j true=false→(∀ e ∈ o.after,Region.binds .any e=true→e.on≠i)→oi.apart ops o=true) →
   i ∈ Region.ready .any ops li→YieldsIf P ops S oi v a→S w→Goes P ops Q S late n (li.setIfInBounds i true) (a.put oi.dst v) w→Goes P ops Q S late (n+1) li a w:=by
 induction n with
 | zero =>
  intro li a w _ _ hr hy hS H
  refine ⟨fun h=>absurd hr (by rw [h];exact List.not_mem_nil),fun j hj=>?_⟩
  by_cases e:j=i
  ·rw [e];exact hy.wpOp hi hS ⟨fun _=>hS,H⟩
  ·have:=ready_mono hj e
   rw [H.1] at this
   cases this
 | succ n ih =>
  intro li a w hcl hfr hr hy hS H
  refine ⟨fun h=>absurd hr (by rw [h];exact List.not_mem_nil),fun j hj=>?_⟩
  by_cases e:j=i
  ·rw [e];exact hy.wpOp hi hS ⟨fun _=>hS,H⟩
  ·obtain ⟨hun,o,ho,_⟩:=mem_ready.1 hj
   have hub:=unbound hr hj ho
   have hi0:li.getD i false=false:=by
    have h0:=(mem_ready.1 hr).1
    simp only [Array.getD_eq_getD_getElem?] at h0 ⊢
    cases hk:li[i]? with
    | none=>rfl
    | some b=>rw [hk] at h0;exact h0
   have hnl:late j=false:=by
    cases hl:late j with
    | false=>rfl
    | true =>
     have h1:=List.all_eq_true.1 hw j (List.mem_range.2 (Array.getElem?_eq_some_iff.1 ho).1)
     simp only [hl,Bool.not_true,Bool.or_false,Bool.or_eq_true,beq_iff_eq] at h1
     obtain ⟨x,hx,hb,hx2⟩:=dep_spec hcl hi0 _ j o ho (h1.resolve_left e)
     rw [ready_done hj ho x hx hb] at hx2
     cases hx2
   have k:=wpOp_putIf ho (hfr j o ho e hun hub) (fun cs b=>Region.noSelect_spec hs i oi cs b hi) (fun cs b=>Region.noSelect_spec hs j o cs b ho) hQ hy (H.2 j (ready_mono hj e))
   refine wpOp_mono (fun b u k2=>⟨k2.2.1,ih _ b u (closed_set hcl hj) (fun x ox hx hne hx2 hx3=>hfr x ox hx hne ?_ hx3) (ready_mono hr (Ne.symm e)) k2.1 (k2.2.1 hnl) ?_⟩) k
   ·by_cases e2:j=x
    ·exact e2 ▸ hun
    ·rwa [getD_set_ne true e2] at hx2
   ·rw [Array.setIfInBounds_comm _ _ e]
    exact k2.2.2
theorem Goes.takeT {i:Nat} {oi:Oper} {v:Value} {n:Nat} {li:Array Bool} {a:Act} {w:World} (hi:ops[i]?=some oi) (hs:Region.noSelect ops=true) (hf:Region.free .any ops li i=true) (hr:(Region.ready .any ops li).contains i=true)
  (hw:waitsT ops late i=true) (hc:closed ops li=true) (hQ:∀ c a w,Q (.panic c) (a.put oi.dst v) w→Q (.panic c) a w) (hy:YieldsIf P ops S oi v a) (hS:S w)
  (h:Goes P ops Q S late n (li.setIfInBounds i true) (a.put oi.dst v) w):Goes P ops Q S late (n+1) li a w :=
 Goes.firstT hi hs hw hQ n li a w (closed_spec hc) (Region.free_spec hi hf) (by simpa using hr) hy hS h
def okT (ops:Array Oper) (late:Nat→Bool) (li:Array Bool) (i:Nat):Bool:=Region.noSelect ops && Region.free .any ops li i && (Region.ready .any ops li).contains i && waitsT ops late i && closed ops li
theorem tk (i:Nat) (v:Value) {oi:Oper} {n:Nat} {li:Array Bool} {a:Act} {w:World} (hy:∀ w,S w→(execOp a.eval oi).run P w = .ok (.value v) w) (hS:S w)
  (h:Goes P ops Q S late n (li.setIfInBounds i true) (a.put oi.dst v) w)
  (hi:ops[i]?=some oi:=by simp only [List.getElem?_toArray,List.getElem?_cons_succ,List.getElem?_cons_zero];rfl)
  (hc:okT ops late li i=true:=by kernel_rfl) (hw:Region.wanted oi (yielded ops a.tmps)=true:=by rfl)
  (hQ:∀ c a w,Q (.panic c) (a.put oi.dst v) w→Q (.panic c) a w:=by exact fun _ _ _ h=>h):Goes P ops Q S late (n+1) li a w:=by
 simp only [okT,Bool.and_eq_true] at hc
 exact Goes.takeT hi hc.1.1.1.1 hc.1.1.1.2 hc.1.1.2 hc.1.2 hc.2 hQ (.inl ⟨hw,hy⟩) hS h
theorem tn (i:Nat) {oi:Oper} {n:Nat} {li:Array Bool} {a:Act} {w:World} (hS:S w)
  (h:Goes P ops Q S late n (li.setIfInBounds i true) (a.put oi.dst undef) w)
  (hi:ops[i]?=some oi:=by simp only [List.getElem?_toArray,List.getElem?_cons_succ,List.getElem?_cons_zero];rfl)
  (hc:okT ops late li i=true:=by kernel_rfl) (hw:Region.wanted oi (yielded ops a.tmps)=false:=by rfl)
  (hQ:∀ c a w,Q (.panic c) (a.put oi.dst undef) w→Q (.panic c) a w:=by exact fun _ _ _ h=>h):Goes P ops Q S late (n+1) li a w:=by
 simp only [okT,Bool.and_eq_true] at hc
 exact Goes.takeT hi hc.1.1.1.1 hc.1.1.1.2 hc.1.1.2 hc.1.2 hc.2 hQ (.inr ⟨hw,rfl⟩) hS h
theorem Goes.one {i:Nat} {oi:Oper} {n:Nat} {li:Array Bool} {a:Act} {w:World} (hr:Region.ready .any ops li=[i]) (hi:ops[i]?=some oi)
  (h:∀ K:Act→World→Prop,Shut (∀ b u,(late i=false→S u)→((late i=false→S u)→Goes P ops Q S late n (li.setIfInBounds i true) b u)→K b u)→if Region.wanted oi (yielded ops a.tmps)=true then Oper.wp P oi a w K Q else K (a.put oi.dst undef) w) :
  Goes P ops Q S late (n+1) li a w:=by
 refine ⟨fun e=>(by rw [e] at hr;cases hr),fun j hj=>?_⟩
 rw [hr] at hj
 obtain rfl:=List.mem_singleton.1 hj
 exact wpOp_step hi (fun K' hK=>h K' (fun b u hS hG=>hK b u ⟨hS,hG hS⟩))
theorem Goes.two {i j:Nat} {oi oj:Oper} {n:Nat} {li:Array Bool} {a:Act} {w:World} (hr:Region.ready .any ops li=[i,j]) (hi:ops[i]?=some oi) (hj:ops[j]?=some oj)
  (h1:∀ K:Act→World→Prop,Shut (∀ b u,(late i=false→S u)→((late i=false→S u)→Goes P ops Q S late n (li.setIfInBounds i true) b u)→K b u)→if Region.wanted oi (yielded ops a.tmps)=true then Oper.wp P oi a w K Q else K (a.put oi.dst undef) w)
  (h2:∀ K:Act→World→Prop,Shut (∀ b u,(late j=false→S u)→((late j=false→S u)→Goes P ops Q S late n (li.setIfInBounds j true) b u)→K b u)→if Region.wanted oj (yielded ops a.tmps)=true then Oper.wp P oj a w K Q else K (a.put oj.dst undef) w) :
  Goes P ops Q S late (n+1) li a w:=by
 refine ⟨fun e=>(by rw [e] at hr;cases hr),fun k hk=>?_⟩
 rw [hr] at hk
 rcases List.mem_cons.1 hk with rfl|hk
 ·exact wpOp_step hi (fun K' hK=>h1 K' (fun b u hS hG=>hK b u ⟨hS,hG hS⟩))
 ·obtain rfl:=List.mem_singleton.1 hk
  exact wpOp_step hj (fun K' hK=>h2 K' (fun b u hS hG=>hK b u ⟨hS,hG hS⟩))
theorem Goes.done {li:Array Bool} {a:Act} {w:World} (hr:Region.ready .any ops li=[]) (h:Q .normal a w):∀ n,Goes P ops Q S late n li a w
 | 0=>⟨hr,h⟩
 | _+1=>⟨fun _=>h,fun j hj=>by rw [hr] at hj;cases hj⟩
theorem region_goes {id:Nat} {a:Act} {w:World} (S:World→Prop) (late:Nat→Bool) (hm:P.follows .mixedOrders=true) (hS:S w.drew)
  (h:S w.drew→Goes P ops Q S late ops.size (Array.replicate ops.size false) a w.drew):(Code.region id ops true).wp P Q a w :=
 wp_region_any hm (h hS).any
end
end Go.Proofs.YtbhoknnjilidnaaGreatDoor.Late
end

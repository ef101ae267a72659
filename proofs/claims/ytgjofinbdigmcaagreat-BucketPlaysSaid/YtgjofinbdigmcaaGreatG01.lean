/- Words for memory of this project: a slice that shows its cells (nil let in), an append onto a row of the call's own from such a slice, and slices of bytes. More words for memory: what a call may have turned ('But': all blocks but those of a set are as they were), a row of the call's own that is appended to ('Onto'), and strings of bytes. Plain mathematics of the hash of layer 3: what a byte makes of a hash, the hash of a text, and powers of 2 up to 2^30. What each function of layer 3 and of its reference returns, for every text and every number of places: contracts, callees first. Tables of keys as lists of places: where a key lies, an entry laid, a table laid anew, a gap closed in two ways that come to one. -/
import Derived.Below
import Derived.Laws.OwnMore
import Derived.Maps.AppendAt
import Derived.OwnWalk
import Derived.ProofKit
import Derived.Laws.BytesArg
import Derived.Laws.IdiomStrings
import Derived.Lib.AppendStr
import Derived.Deep.Draws
import Derived.Laws.BitsAllLaws
import Derived.Test.YtgjofinbdigmcaaGreatProg
import Derived.WalkKit
import Derived.Outline
import Derived.WalkSpells
import Derived.WalkLawsBesides
import Derived.LoopTactic
import Derived.Lib.Hide
set_option linter.unusedVariables false
set_option maxHeartbeats 400000
set_option maxRecDepth 100000
section
namespace Go.Proofs.YtgjofinbdigmcaaGreat.Mem
open Go.RowKit
def Sees (w:World) (size:Nat) (v:Value) (n:Nat) (cs:List Value):Prop :=
 (v = .slice none 0 0∧n=0∧cs=[]) ∨
 ∃ p c,v = .slice (some p) n c∧cs.length=n * size∧∀ j u,cs[j]?=some u→p.block < w.heap.size∧w.cell? (p.add j)=some u
theorem block_add (p:Addr) (j:Nat):(p.add j).block=p.block:=by
 unfold Addr.add
 split <;> rfl
theorem Sees.below {w w':World} {size n:Nat} {v:Value} {cs:List Value} (h:Sees w size v n cs) (hb:Below w.heap.size w w'):Sees w' size v n cs:=by
 rcases h with h|⟨p,c,hv,hl,hc⟩
 ·exact .inl h
 ·refine .inr ⟨p,c,hv,hl,fun j u hu=>?_⟩
  obtain ⟨h1,h2⟩:=hc j u hu
  exact ⟨Nat.lt_of_lt_of_le h1 hb.size,(hb.cell (p:=p.add j) (by rw [block_add];exact h1)).trans h2⟩
def Bytes (zs:List Int):Prop:=∀ z ∈ zs,0≤z∧z≤255
def Row (w:World) (a:Option Addr) (len:Nat) (zs:List Int):Prop :=
 zs.length=len∧Bytes zs∧(0 < len→∃ b off,a=some ⟨b,off,none⟩∧b < w.heap.size∧∀ i,i < len→w.cell? ⟨b,off+i,none⟩=some (.int .u8 (zs.getD i 0)))
def cellsOf (zs:List Int):List Value:=zs.map (Value.int .u8)
theorem cellsOf_append (xs ys:List Int):cellsOf (xs++ys)=cellsOf xs++cellsOf ys:=by simp [cellsOf]
theorem cellsOf_length (xs:List Int):(cellsOf xs).length=xs.length:=by simp [cellsOf]
theorem cellsOf_get {xs:List Int} {j:Nat} (h:j < xs.length):(cellsOf xs)[j]?=some (.int .u8 (xs.getD j 0)):=by
 simp [cellsOf,List.getD,h]
theorem bytes_append {xs ys:List Int} (hx:Bytes xs) (hy:Bytes ys):Bytes (xs++ys):=by
 intro z hz
 rcases List.mem_append.mp hz with h|h
 ·exact hx z h
 ·exact hy z h
theorem bytes_nil:Bytes []:=by
 intro z hz
 cases hz
theorem bytes_take {zs:List Int} (h:Bytes zs) (k:Nat):Bytes (zs.take k):=fun z hz=>h z (List.mem_of_mem_take hz)
theorem bytes_drop {zs:List Int} (h:Bytes zs) (k:Nat):Bytes (zs.drop k):=fun z hz=>h z (List.mem_of_mem_drop hz)
section
variable {w w':World} {a:Option Addr} {len:Nat} {zs:List Int}
theorem Row.nil:Row w a 0 []:=⟨rfl,bytes_nil,fun h=>absurd h (by omega)⟩
theorem Row.below (h:Row w a len zs) (hb:Below w.heap.size w w'):Row w' a len zs:=by
 refine ⟨h.1,h.2.1,fun hn=>?_⟩
 obtain ⟨b,off,rfl,hlt,hc⟩:=h.2.2 hn
 exact ⟨b,off,rfl,Nat.lt_of_lt_of_le hlt hb.size,fun i hi=>(hb.cell (p:=⟨b,off+i,none⟩) hlt).trans (hc i hi)⟩
theorem add_none (b off i:Nat):(⟨b,off,none⟩:Addr).add i=⟨b,off+i,none⟩:=by
 unfold Addr.add
 split
 ·next h=>subst h;rfl
 ·rfl
theorem Row.of_own {base n:Nat} {e:TypeId} {v:Value} {xs:List Int} (hown:w.ownsRow base e 1 v n (cellsOf xs)) (hb:Bytes xs) :
  ∃ a cap,v = .slice a n cap∧Row w a n xs∧cap≤maxLen∧n≤cap∧(0 < n→∃ g,a=some ⟨g,0,none⟩∧base≤g):=by
 have hl:xs.length=n:=by have:=hown.1;rw [cellsOf_length] at this;omega
 rcases hown.2 with ⟨rfl,rfl⟩|⟨g,cap,cur,rfl,hg,hh,hnc,hcm,hcs,ht⟩
 ·exact ⟨none,0,rfl,⟨hl,hb,fun h=>absurd h (by omega)⟩,by simp,by omega,fun h=>absurd h (by omega)⟩
 ·refine ⟨some ⟨g,0,none⟩,cap,rfl,⟨hl,hb,fun hn=>⟨g,0,rfl,?_,fun i hi=>?_⟩⟩,hcm,hnc,fun _=>⟨g,rfl,hg⟩⟩
  ·exact (hown.lt g rfl).2
  ·have h1:=hown.cellAt i (by omega)
   rw [Nat.zero_add,h1,cellsOf_get (by omega)]
end
end Go.Proofs.YtgjofinbdigmcaaGreat.Mem
end
section
namespace Go.Proofs.YtgjofinbdigmcaaGreat.Mem
open Go.RowKit
structure But (S:Nat→Prop) (w w':World):Prop where
 os:w'.os=w.os
 tape:w'.tape=w.tape
 output:w'.output=w.output
 size:w.heap.size≤w'.heap.size
 block:∀ k,k < w.heap.size→¬ S k→w'.heap[k]?=w.heap[k]?
section
variable {S T:Nat→Prop} {a b c w w':World}
theorem But.refl (S:Nat→Prop) (w:World):But S w w:=⟨rfl,rfl,rfl,Nat.le_refl _,fun _ _ _=>rfl⟩
theorem But.trans (h:But S a b) (k:But T b c) (hT:∀ i,i < a.heap.size→T i→S i):But S a c :=
 ⟨k.os.trans h.os,k.tape.trans h.tape,k.output.trans h.output,Nat.le_trans h.size k.size,
  fun i hi hs=>(k.block i (Nat.lt_of_lt_of_le hi h.size) (fun ht=>hs (hT i hi ht))).trans (h.block i hi hs)⟩
theorem But.trans' (h:But S a b) (k:But S b c):But S a c:=h.trans k (fun _ _ hs=>hs)
theorem But.mono (h:But S w w') (hS:∀ i,i < w.heap.size→S i→T i):But T w w' :=
 ⟨h.os,h.tape,h.output,h.size,fun i hi ht=>h.block i hi (fun hs=>ht (hS i hi hs))⟩
theorem But.drew (h:But S a w):But S a w.drew:=⟨h.os,h.tape,h.output,h.size,h.block⟩
theorem But.drewN (h:But S a w) (n:Nat):But S a (w.drewN n):=⟨h.os,h.tape,h.output,h.size,h.block⟩
theorem But.alloc (h:But S a w) (o:Obj):But S a (w.alloc o) :=
 h.trans' ⟨rfl,rfl,rfl,by simp,fun k hk _=>Below.heap_alloc _ _ _ hk⟩
theorem But.setCell (h:But S a w) {p:Addr} (hp:S p.block) (u:Value):But S a (w.setCell p u) :=
 h.trans' ⟨rfl,rfl,rfl,by simp,fun k _ hk=>Below.heap_setCell _ _ _ _ (fun e=>hk (e ▸ hp))⟩
theorem But.cell (h:But S w w') {p:Addr} (hp:p.block < w.heap.size) (hs:¬ S p.block):w'.cell? p=w.cell? p:=World.cell?_of_block (w:=w) (h.block p.block hp hs)
theorem But.frozen (h:But S w w') {p:Addr} (hp:p.block < w.heap.size) (hs:¬ S p.block):w'.frozen? p=w.frozen? p:=World.frozen?_of_block (w:=w) (h.block p.block hp hs)
theorem But.below {B:Nat} (h:But S w w') (hB:B≤w.heap.size) (hS:∀ k,S k→B≤k):Below B w w' :=
 ⟨h.os,h.tape,h.output,h.size,fun k hk=>h.block k (by omega) (fun hs=>by have:=hS k hs;omega)⟩
theorem But.of_below {B:Nat} (h:Below B w w'):But (fun k=>B≤k) w w' :=
 ⟨h.os,h.tape,h.output,h.size,fun k _ hk=>h.block k (by omega)⟩
theorem But.of_new (h:Below w.heap.size w w'):But S w w':=(But.of_below h).mono (fun i hi hs=>by omega)
theorem But.new (h:But (fun _=>False) w w'):Below w.heap.size w w':=h.below (Nat.le_refl _) (fun k hk=>hk.elim)
theorem But.of_grown {row:Option Nat} (h:w.grownBy w' row):But (fun k=>some k=row) w w':=⟨h.os,h.tape,h.output,h.size,h.block⟩
theorem Row.but {x:Option Addr} {len:Nat} {zs:List Int} (h:Row w x len zs) (hb:But S w w') (hs:∀ p,x=some p→0 < len→¬ S p.block):Row w' x len zs:=by
 refine ⟨h.1,h.2.1,fun hn=>?_⟩
 obtain ⟨b,off,rfl,hlt,hc⟩:=h.2.2 hn
 exact ⟨b,off,rfl,Nat.lt_of_lt_of_le hlt hb.size,fun i hi=>(hb.cell (p:=⟨b,off+i,none⟩) hlt (hs ⟨b,off,none⟩ rfl hn)).trans (hc i hi)⟩
end
structure Onto (w w':World) (v v':Value):Prop where
 grown:w.grownBy w' v.ownBlock
 own:v'.ownBlock=v.ownBlock∨∀ k,v'.ownBlock=some k→w.heap.size≤k
section
variable {w w' w'':World} {v v' v'':Value}
theorem Onto.refl (w:World) (v:Value):Onto w w v v:=⟨World.grownBy.refl w _,.inl rfl⟩
theorem Onto.but (h:Onto w w' v v'):But (fun k=>some k=v.ownBlock) w w' := .of_grown h.grown
theorem Onto.trans (h:Onto w w' v v') (k:Onto w' w'' v' v''):Onto w w'' v v'':=by
 have hs:=h.grown.size
 refine ⟨⟨k.grown.os.trans h.grown.os,k.grown.tape.trans h.grown.tape,k.grown.output.trans h.grown.output,Nat.le_trans hs k.grown.size,fun i hi hne=>?_⟩,?_⟩
 ·refine (k.grown.block i (by omega) (fun e=>?_)).trans (h.grown.block i hi hne)
  rcases h.own with h1|h1
  ·exact hne (e.trans h1)
  ·have:=h1 i e.symm;omega
 ·rcases k.own with k1|k1
  ·rcases h.own with h1|h1
   ·exact .inl (k1.trans h1)
   ·exact .inr (fun i e=>h1 i (k1.symm.trans e))
  ·exact .inr (fun i e=>by have:=k1 i e;omega)
theorem Onto.below {base n:Nat} {e:TypeId} {size:Nat} {xs:List Value} (h:Onto w w' v v') (ho:w.ownsRow base e size v n xs) (hb:base≤w.heap.size):Below base w w' :=
 (Below.refl base w).grown h.grown hb (fun k hk=>(ho.lt k hk).1)
theorem Onto.of_alloc {o:Obj} (h:Onto (w.alloc o) w' v v') (hv:∀ k,v.ownBlock=some k→k < w.heap.size):Onto w w' v v':=by
 refine ⟨⟨h.grown.os,h.grown.tape,h.grown.output,by have:=h.grown.size;simp at this;omega,fun k hk hne=>(h.grown.block k (by simp;omega) hne).trans (Below.heap_alloc _ _ _ hk)⟩,?_⟩
 rcases h.own with h1|h1
 ·exact .inl h1
 ·exact .inr (fun k e=>by have:=h1 k e;simp at this;omega)
end
theorem ownsRow_alloc {w:World} {base:Nat} {e:TypeId} {size:Nat} {v:Value} {n:Nat} {xs:List Value} (h:w.ownsRow base e size v n xs) (o:Obj):(w.alloc o).ownsRow base e size v n xs:=by
 refine ⟨h.1,?_⟩
 rcases h.2 with h2|⟨g,cap,cur,hv,hg,hh,r⟩
 ·exact .inl h2
 ·refine .inr ⟨g,cap,cur,hv,hg,?_,r⟩
  have hlt:g < w.heap.size:=by
   rcases Nat.lt_or_ge g w.heap.size with h3|h3
   ·exact h3
   ·rw [Array.getElem?_eq_none h3] at hh;cases hh
  rw [Below.heap_alloc _ _ _ hlt];exact hh
theorem ownsRow_but {S:Nat→Prop} {w w':World} {base:Nat} {e:TypeId} {size:Nat} {v:Value} {n:Nat} {xs:List Value} (h:w.ownsRow base e size v n xs) (hb:But S w w') (hs:∀ k,v.ownBlock=some k→¬ S k):w'.ownsRow base e size v n xs:=by
 refine ⟨h.1,?_⟩
 rcases h.2 with h2|⟨g,cap,cur,hv,hg,hh,r⟩
 ·exact .inl h2
 ·refine .inr ⟨g,cap,cur,hv,hg,?_,r⟩
  have hlt:g < w.heap.size:=by
   rcases Nat.lt_or_ge g w.heap.size with h3|h3
   ·exact h3
   ·rw [Array.getElem?_eq_none h3] at hh;cases hh
  subst hv
  rw [hb.block g hlt (hs g rfl)];exact hh
theorem wpList_append_onto {P:Program} {w:World} {ops:Array Oper} {rest:List Oper} {o:Oper} {a:Act} {Q:Exit→Act→World→Prop} (hgd:o.guard=none) (s x:Operand) (t:TypeId)
  (ho:o.op = .call { callee := .builtin .append,args := #[s,x],argTypes := #[t,t] })
  (base:Nat) (e:TypeId) (i:TypeInfo) (z:Value) (size bytes:Nat) (ht:P.underlying t=some (.slice e)) (hi:P.info? e=some i) (hz:i.zero=some z)
  (hsize:i.size=size) (hby:i.bytes=bytes) (hzs:z.cells.size=size) (hpos:0 < size)
  (v:Value) (n:Nat) (xs:List Value) (hs:a.eval s=v) (hown:w.ownsRow base e size v n xs)
  (y:Value) (m:Nat) (ys:List Value) (hx:a.eval x=y) (hy:Sees w size y m ys) (hone:∀ u ∈ ys,u.oneCell'=true)
  (hlen:n+m≤maxLen) (hroom:(n+m) * bytes≤140737488355328) (hbase:base≤w.heap.size)
  (h:∀ v' w',w'.ownsRow base e size v' (n+m) (xs++ys)→Onto w w' v v'→wpList P ops Q rest (a.put o.dst v') w'):wpList P ops Q (o :: rest) a w:=by
 have hrun:∃ v' w',(Builtin.append_ #[t,t] o.type #[v,y]).run P w = .ok v' w'∧w'.ownsRow base e size v' (n+m) (xs++ys)∧Onto w w' v v':=by
  rcases hy with ⟨rfl,rfl,rfl⟩|⟨p,c,rfl,hl,hc⟩
  ·exact ⟨v,w,run_append_owned_none w base t o.type e i size ht hi v n xs hown,by simpa using hown,Onto.refl w v⟩
  ·obtain ⟨v',w',h1,h2,h3,_,h5⟩:=run_append_own_at (P:=P) w base t o.type e i z size bytes ht hi hz hsize hby hzs hpos v n xs hown p m c ys hl (fun j u hu=>(hc j u hu).2) hone hlen hroom hbase
   refine ⟨v',w',h1,h2,h3,?_⟩
   rcases h5 with h5|h5
   ·exact .inl h5
   ·exact .inr (fun k hk=>by rw [h5] at hk;injection hk with hk;omega)
 obtain ⟨v',w',h1,h2,h3⟩:=hrun
 refine wpList_plain hgd fun K hK=>?_
 unfold Oper.wp execOp
 simp only [ho,resolve,invoke,builtin,Sem.run_bind,Sem.run_pure,Result.andThen_ok,List.map_toArray,List.map_cons,List.map_nil,hs,hx,h1]
 exact hK _ _ (h v' w' h2 h3)
theorem step_append_onto {P:Program} {w:World} {ops:Array Oper} {o:Oper} {a:Act} {K:Act→World→Prop} {Q:Exit→Act→World→Prop} {E:Prop} (hw:Region.wanted o (yielded ops a.tmps)=true) (s x:Operand) (t:TypeId)
  (ho:o.op = .call { callee := .builtin .append,args := #[s,x],argTypes := #[t,t] })
  (base:Nat) (e:TypeId) (i:TypeInfo) (z:Value) (size bytes:Nat) (ht:P.underlying t=some (.slice e)) (hi:P.info? e=some i) (hz:i.zero=some z)
  (hsize:i.size=size) (hby:i.bytes=bytes) (hzs:z.cells.size=size) (hpos:0 < size)
  (v:Value) (n:Nat) (xs:List Value) (hs:a.eval s=v) (hown:w.ownsRow base e size v n xs)
  (y:Value) (m:Nat) (ys:List Value) (hx:a.eval x=y) (hy:Sees w size y m ys) (hone:∀ u ∈ ys,u.oneCell'=true)
  (hlen:n+m≤maxLen) (hroom:(n+m) * bytes≤140737488355328) (hbase:base≤w.heap.size)
  (h:∀ v' w',w'.ownsRow base e size v' (n+m) (xs++ys)→Onto w w' v v'→K (a.put o.dst v') w'):if Region.wanted o (yielded ops a.tmps)=true then Oper.wp P o a w K Q else E:=by
 rw [if_pos hw]
 have hrun:∃ v' w',(Builtin.append_ #[t,t] o.type #[v,y]).run P w = .ok v' w'∧w'.ownsRow base e size v' (n+m) (xs++ys)∧Onto w w' v v':=by
  rcases hy with ⟨rfl,rfl,rfl⟩|⟨p,c,rfl,hl,hc⟩
  ·exact ⟨v,w,run_append_owned_none w base t o.type e i size ht hi v n xs hown,by simpa using hown,Onto.refl w v⟩
  ·obtain ⟨v',w',h1,h2,h3,_,h5⟩:=run_append_own_at (P:=P) w base t o.type e i z size bytes ht hi hz hsize hby hzs hpos v n xs hown p m c ys hl (fun j u hu=>(hc j u hu).2) hone hlen hroom hbase
   refine ⟨v',w',h1,h2,h3,?_⟩
   rcases h5 with h5|h5
   ·exact .inl h5
   ·exact .inr (fun k hk=>by rw [h5] at hk;injection hk with hk;omega)
 obtain ⟨v',w',h1,h2,h3⟩:=hrun
 unfold Oper.wp execOp
 simp only [ho,resolve,invoke,builtin,Sem.run_bind,Sem.run_pure,Result.andThen_ok,List.map_toArray,List.map_cons,List.map_nil,hs,hx,h1]
 exact h v' w' h2 h3
theorem own_shape {w:World} {base n:Nat} {e:TypeId} {v:Value} {xs:List Int} (h:w.ownsRow base e 1 v n (cellsOf xs)) (hb:Bytes xs) :
  ∃ a cap,v = .slice a n cap∧Row w a n xs∧n=xs.length∧((a=none∧cap=0∧n=0)∨∃ g,a=some ⟨g,0,none⟩∧base≤g∧g < w.heap.size∧n≤cap∧cap≤maxLen):=by
 obtain ⟨a,cap,hv,hr,hc1,hc2,_⟩:=Row.of_own h hb
 refine ⟨a,cap,hv,hr,hr.1.symm,?_⟩
 rcases h.2 with ⟨h1,h2⟩|⟨g,cap',cur,h1,h2,h3,h4,h5,h6,h7⟩
 ·rw [hv] at h1
  injection h1 with h1 h3 h4
  exact .inl ⟨h1,h4,h2⟩
 ·have:=h.lt g (by rw [h1];rfl)
  rw [hv] at h1
  injection h1 with h1 h8 h9
  exact .inr ⟨g,h1,h2,this.2,hc2,hc1⟩
theorem sees_one (w:World) (u:Value) (e:TypeId) (fr:Nat × Nat):Sees (w.alloc (.cells #[u] e fr)) 1 (.slice (some ⟨w.heap.size,0,none⟩) 1 1) 1 [u]:=by
 refine .inr ⟨_,_,rfl,rfl,fun j x hx=>?_⟩
 have hj:j=0:=by
  rcases j with _|j
  ·rfl
  ·simp at hx
 subst hj
 refine ⟨by simp,?_⟩
 rw [add_none,Nat.add_zero,World.cell?_alloc_mark]
 simpa using hx
def strBytes (s:ByteArray):List Int:=s.data.toList.map fun b=>(b.toNat:Int)
theorem strBytes_length (s:ByteArray):(strBytes s).length=s.size:=by
 unfold strBytes
 rw [List.length_map,Array.length_toList]
 rfl
theorem strBytes_bytes (s:ByteArray):Bytes (strBytes s):=by
 intro z hz
 simp only [strBytes,List.mem_map] at hz
 obtain ⟨b,_,rfl⟩:=hz
 have:=b.toNat_lt
 omega
theorem strCells_eq (s:ByteArray):Lib.strCells s=cellsOf (strBytes s):=by
 simp [Lib.strCells,cellsOf,strBytes]
theorem wpList_append_str_grown {P:Program} {w:World} {ops:Array Oper} {rest:List Oper} {o:Oper} {a:Act} {Q:Exit→Act→World→Prop} (hgd:o.guard=none) (s x:Operand) (t u:TypeId)
  (ho:o.op = .call { callee := .builtin .append,args := #[s,x],argTypes := #[t,u] })
  (base:Nat) (e:TypeId) (i:TypeInfo) (ht:P.underlying t=some (.slice e)) (hu:P.underlying u=some .string) (hi:P.info? e=some i) (hz:i.zero=some (.int .u8 0))
  (hsize:i.size=1) (hby:i.bytes=1)
  (v:Value) (n:Nat) (xs:List Value) (hs:a.eval s=v) (hown:w.ownsRow base e 1 v n xs)
  (y:ByteArray) (hx:a.eval x = .string y)
  (hlen:n+y.size≤maxLen) (hroom:n+y.size≤140737488355328) (hbase:base≤w.heap.size)
  (h:∀ v' w',w'.ownsRow base e 1 v' (n+y.size) (xs++cellsOf (strBytes y))→w.grownBy w' v.ownBlock→wpList P ops Q rest (a.put o.dst v') w'):wpList P ops Q (o :: rest) a w:=by
 obtain ⟨v',w',h1,h2,h3,_⟩:=Lib.run_append_own_string (P:=P) w base t u o.type e i ht hu hi hz hsize hby v n xs hown y hlen hroom hbase
 rw [strCells_eq] at h2
 refine wpList_plain hgd fun K hK=>?_
 unfold Oper.wp execOp
 simp only [ho,resolve,invoke,builtin,Sem.run_bind,Sem.run_pure,Result.andThen_ok,List.map_toArray,List.map_cons,List.map_nil,hs,hx,h1]
 exact hK _ _ (h v' w' h2 h3)
end Go.Proofs.YtgjofinbdigmcaaGreat.Mem
end
section
namespace Go.Proofs.YtgjofinbdigmcaaGreat.Fnv
open Go.Proofs.YtgjofinbdigmcaaGreat.Mem
def stepOf (r:Nat) (z:Int):Nat:=(r ^^^ z.toNat) * 1099511628211 % 18446744073709551616
def come (r:Nat) (zs:List Int):Nat:=zs.foldl stepOf r
def hashOf (s:ByteArray):Nat:=come 14695981039346656037 (strBytes s)
theorem stepOf_lt (r:Nat) (z:Int):stepOf r z < 18446744073709551616:=Nat.mod_lt _ (by omega)
theorem come_lt {r:Nat} (hr:r < 18446744073709551616) (zs:List Int):come r zs < 18446744073709551616:=by
 induction zs generalizing r with
 | nil=>exact hr
 | cons z zs ih=>exact ih (stepOf_lt r z)
theorem foldl_snoc {α β:Type} (f:β→α→β) (r:β) (zs:List α) (z:α):(zs++[z]).foldl f r=f (zs.foldl f r) z:=by
 rw [List.foldl_append]
 rfl
theorem come_snoc (r:Nat) (zs:List Int) (z:Int):come r (zs++[z])=stepOf (come r zs) z:=foldl_snoc stepOf r zs z
theorem hashOf_lt (s:ByteArray):hashOf s < 18446744073709551616:=come_lt (by omega) _
theorem strBytes_take (T:ByteArray) (j:Nat) (h:j < T.size):(strBytes T).take (j+1)=(strBytes T).take j++[((T[j]).toNat:Int)]:=by
 have hl:j < (strBytes T).length:=by rw [strBytes_length];exact h
 rw [List.take_succ_eq_append_getElem hl]
 have e:(strBytes T)[j]'hl=((T[j]).toNat:Int):=(List.getElem_map (f:=fun b:UInt8=>(b.toNat:Int)) (l:=T.data.toList) (i:=j) (h:=hl)).trans rfl
 rw [e]
theorem strBytes_all (T:ByteArray) {j:Nat} (h:¬ j < T.size):(strBytes T).take j=strBytes T:=List.take_of_length_le (by rw [strBytes_length];omega)
theorem come_step (r:Nat) (T:ByteArray) {j:Nat} (h:j < T.size):come r ((strBytes T).take (j+1))=(come r ((strBytes T).take j) ^^^ (T[j]).toNat) * 1099511628211 % 18446744073709551616:=by
 rw [strBytes_take T j h,come_snoc]
 rfl
def Pow (p:Int):Prop:=∃ k:Nat,k≤30∧p=((2 ^ k:Nat):Int)
theorem pow_le {k:Nat} (h:k≤30):1≤2 ^ k∧2 ^ k≤1073741824 :=
 ⟨Nat.one_le_two_pow,Nat.le_trans (Nat.pow_le_pow_right (by omega) h) (by decide)⟩
theorem pow_and (k:Nat):(2 ^ k) &&& (2 ^ k - 1)=0:=by
 rw [Nat.and_two_pow_sub_one_eq_mod,Nat.mod_self]
theorem ofInt_i64 (a:Nat) (ha:a < 9223372036854775808):(BitVec.ofInt 64 (a:Int)).toNat=a:=by
 rw [BitVec.ofInt_natCast,BitVec.toNat_ofNat];exact Nat.mod_eq_of_lt (by omega)
theorem i64_and_nat (a b:Nat) (ha:a < 9223372036854775808) (hb:b < 9223372036854775808):bits .and .i64 (a:Int) (b:Int)=((a &&& b:Nat):Int):=by
 have hx:a &&& b < 2 ^ 63:=Nat.and_lt_two_pow _ (by omega)
 show IntKind.i64.wrap ((BitVec.ofInt 64 (a:Int) &&& BitVec.ofInt 64 (b:Int)).toNat:Int)=_
 rw [BitVec.toNat_and,ofInt_i64 a ha,ofInt_i64 b hb]
 simp [IntKind.wrap,IntKind.signed,IntKind.bits]
 omega
end Go.Proofs.YtgjofinbdigmcaaGreat.Fnv
end
section
namespace Go.Proofs.YtgjofinbdigmcaaGreat.Fnv
open Go.Proofs.YtgjofinbdigmcaaGreat.Mem
open Go.ChangeShapes Go.WideShapes Go.ChangeAt Go.RowKit
theorem ret_int {k:IntKind} {a b:Int} (h:a=b):Ending.returned (.int k a) = .returned (.int k b):=by rw [h]
theorem mul_step {R V:Nat} {x:UInt8} (hR:R < 18446744073709551616) (h:V=(R ^^^ x.toNat) * 1099511628211 % 18446744073709551616):IntKind.u64.wrap (bits .xor .u64 (R:Int) (x.toNat:Int) * 1099511628211)=(V:Int):=by
 have hc:=x.toNat_lt
 rw [u64_xor_nat R x.toNat hR (by omega),IntKind.wrap_u64,h]
 omega
theorem hash_any (s:ByteArray) (hs:s.size≤140737488355328) (w:World) :
  Calls Tryz.prog 127 #[.string s] w fun e w'=>e = .returned (.int .u64 ((hashOf s:Nat):Int))∧w=w':=by
 go_enter Tryz.func127,Tryz.ntmps127
 go_wp2
 go_loop [3,7] (fun r i=>∃ (k R:Nat),k≤s.size∧i = .int .i64 (k:Int)∧r = .int .u64 (R:Int)∧R=come 14695981039346656037 ((strBytes s).take k)) (fun _ i=>s.size - (intOf i).toNat)
 case atStart=>exact ⟨0,14695981039346656037,by omega,rfl,rfl,rfl⟩
 case round =>
  obtain ⟨k,R,hk,rfl,rfl,hR⟩:=hrel
  have hlt:R < 18446744073709551616:=by rw [hR];exact come_lt (by omega) _
  have HR:=Lib.hid hR
  clear hR
  by_cases hk8:k < s.size
  ·have hc:=(s[k]).toNat_lt
   have hstep:=come_step 14695981039346656037 s hk8
   rw [← HR.out] at hstep
   obtain ⟨V,hV⟩:∃ V,V=come 14695981039346656037 ((strBytes s).take (k+1)):=⟨_,rfl⟩
   rw [← hV] at hstep
   have HV:=Lib.hid hV
   have HM:=Lib.hid (mul_step (R:=R) (V:=V) (x:=s[k]) hlt hstep)
   clear hstep hV
   go_wp2
   go_round
   case rel =>
    refine ⟨k+1,V,by omega,by go_num,?_,HV.out⟩
    have hm:=HM.out
    rw [hm]
   case measure=>simp [intOf];omega
  ·have HE:=Lib.hid (strBytes_all s hk8)
   go_wp2
   go_ret
   refine ⟨ret_int ?_,rfl⟩
   rw [HR.out,HE.out]
   rfl
theorem may_yes {p:Int} (hp:Pow p) (w:World) :
  Calls Tryz.prog 126 #[.int .i64 p] w fun e w'=>e = .returned (.bool true)∧w=w':=by
 obtain ⟨k,hk,rfl⟩:=hp
 have h1:=pow_le hk
 have h2:=pow_and k
 obtain ⟨P,hP⟩:∃ P,P=2 ^ k:=⟨_,rfl⟩
 rw [← hP] at h1 h2 ⊢
 clear hP
 have hb:=i64_and_nat P (P - 1) (by omega) (by omega)
 rw [h2,show ((P - 1:Nat):Int)=(P:Int) - 1 by omega] at hb
 clear h2
 go_enter Tryz.func126,Tryz.ntmps126
 go_wp2
 go_ret
 exact ⟨rfl,rfl⟩
def homeOf (s:ByteArray) (p:Int):Int:=(hashOf s:Int) % p
theorem home_and {h P k:Nat} (hh:h < 18446744073709551616) (hk:k≤30) (hP:P=2 ^ k):bits .and .u64 (h:Int) ((P:Int) - 1)=(h:Int) % (P:Int):=by
 have h1:=pow_le hk
 rw [← hP] at h1
 have hb:=u64_and_nat h (P - 1) hh (by omega)
 rw [show ((P - 1:Nat):Int)=(P:Int) - 1 by omega] at hb
 rw [hb,hP,Nat.and_two_pow_sub_one_eq_mod]
 simp
theorem home_yes (s:ByteArray) (hs:s.size≤140737488355328) {p:Int} (hp:Pow p) (w:World) :
  Calls Tryz.prog 109 #[.string s,.int .i64 p] w fun e w'=>e = .returned (.int .i64 (homeOf s p))∧w=w':=by
 have hp':=Lib.hid hp
 obtain ⟨k,hk,hpk⟩:=hp
 have h1:=pow_le hk
 obtain ⟨P,hP⟩:∃ P,P=2 ^ k:=⟨_,rfl⟩
 rw [← hP] at h1 hpk
 subst hpk
 have hb:=home_and (hashOf_lt s) hk hP
 clear hP
 have hm:0≤(hashOf s:Int) % (P:Int)∧(hashOf s:Int) % (P:Int) < (P:Int):=⟨Int.emod_nonneg _ (by omega),Int.emod_lt_of_pos _ (by omega)⟩
 unfold homeOf
 obtain ⟨M,hM⟩:∃ M,M=(hashOf s:Int) % (P:Int):=⟨_,rfl⟩
 rw [← hM] at hb hm ⊢
 clear hM
 go_enter Tryz.func109,Tryz.ntmps109
 go_wp2_with fail
 refine (may_yes hp'.out w).mono ?_
 rintro e w' ⟨rfl,rfl⟩
 go_wp2_with fail
 refine (hash_any s hs w).mono ?_
 rintro e w' ⟨rfl,rfl⟩
 obtain ⟨H,hH⟩:∃ H,H=hashOf s:=⟨_,rfl⟩
 rw [← hH] at hb ⊢
 clear hH
 go_wp2_with fail
 go_ret
 exact ⟨rfl,rfl⟩
end Go.Proofs.YtgjofinbdigmcaaGreat.Fnv
end
section
namespace Go.Proofs.YtgjofinbdigmcaaGreat.Key
open Go.Proofs.YtgjofinbdigmcaaGreat.Mem Go.Proofs.YtgjofinbdigmcaaGreat.Fnv
structure Ent where
 key:ByteArray
 seg:Int
 at_:Int
 len:Int
 ver:Nat
 exp:Nat
 size:Int
deriving DecidableEq
abbrev Tab:=List (Option Ent)
def hm (n:Nat) (s:ByteArray):Nat:=hashOf s % n
def look (T:Tab) (i:Nat):Option Ent:=T.getD i none
def stops (T:Tab) (s:ByteArray) (i:Nat):Bool:=match look T i with|none=>true|some e=>decide (e.key=s)
def dist (T:Tab) (s:ByteArray):Nat:=(List.range T.length).findIdx (fun d=>stops T s ((hm T.length s+d) % T.length))
def find (T:Tab) (s:ByteArray):Nat:=(hm T.length s+dist T s) % T.length
def free (T:Tab):Prop:=∃ i,i < T.length∧look T i=none
def WF (T:Tab):Prop:=∀ j e,look T j=some e→find T e.key=j
def cnt (T:Tab):Nat:=T.countP Option.isSome
def lay (T:Tab) (e:Ent):Tab:=T.set (find T e.key) (some e)
theorem mod_one {n x y:Nat} (h:x % n=y % n) (h1:x≤y) (h2:y < x+n):x=y:=by
 have e1:=Nat.div_add_mod x n
 have e2:=Nat.div_add_mod y n
 rcases Nat.lt_or_ge (x / n) (y / n) with h3|h3
 ·have h4:=Nat.mul_le_mul_left n h3
  rw [Nat.mul_succ] at h4
  omega
 ·have h4:=Nat.mul_le_mul_left n h3
  omega
theorem look_lt {T:Tab} {j:Nat} {e:Ent} (h:look T j=some e):j < T.length:=by
 rcases Nat.lt_or_ge j T.length with h1|h1
 ·exact h1
 ·simp [look,List.getD,List.getElem?_eq_none h1] at h
theorem look_set {T:Tab} {i j:Nat} {o:Option Ent} (hi:i < T.length):look (T.set i o) j=if i=j then o else look T j:=by
 simp only [look,List.getD,List.getElem?_set]
 by_cases h:i=j
 ·subst h;simp [hi]
 ·simp [h]
theorem look_set_same {T:Tab} {i:Nat} {o:Option Ent} (hi:i < T.length):look (T.set i o) i=o:=by rw [look_set hi,if_pos rfl]
theorem look_set_ne {T:Tab} {i j:Nat} {o:Option Ent} (h:i≠j):look (T.set i o) j=look T j:=by
 simp only [look,List.getD,List.getElem?_set,if_neg h]
theorem look_mem {T:Tab} {e:Ent}:some e ∈ T ↔ ∃ j,look T j=some e:=by
 constructor
 ·intro h
  obtain ⟨j,hj,he⟩:=List.getElem_of_mem h
  exact ⟨j,by simp [look,List.getD,hj,he]⟩
 ·rintro ⟨j,h⟩
  have hj:=look_lt h
  simp [look,List.getD,hj] at h
  exact h ▸ List.getElem_mem hj
theorem dist_lt {T:Tab} {s:ByteArray} (h:∃ d,d < T.length∧stops T s ((hm T.length s+d) % T.length)=true):dist T s < T.length:=by
 have:=List.findIdx_lt_length_of_exists (xs:=List.range T.length) (p:=fun d=>stops T s ((hm T.length s+d) % T.length)) (by
  obtain ⟨d,h1,h2⟩:=h
  exact ⟨d,List.mem_range.2 h1,h2⟩)
 simpa [dist] using this
theorem dist_stops {T:Tab} {s:ByteArray} (h:dist T s < T.length):stops T s (find T s)=true:=by
 have h1:(List.range T.length).findIdx (fun d=>stops T s ((hm T.length s+d) % T.length)) < (List.range T.length).length:=by simpa [dist] using h
 have:=List.findIdx_getElem (w:=h1)
 simpa [find,dist] using this
theorem dist_before {T:Tab} {s:ByteArray} {d:Nat} (h:d < dist T s):stops T s ((hm T.length s+d) % T.length)=false:=by
 have h1:d < (List.range T.length).length:=by
  have:=List.findIdx_le_length (xs:=List.range T.length) (p:=fun d=>stops T s ((hm T.length s+d) % T.length))
  exact Nat.lt_of_lt_of_le h this
 have:=List.not_of_lt_findIdx (p:=fun d=>stops T s ((hm T.length s+d) % T.length)) (xs:=List.range T.length) (i:=d) h
 simpa using this
theorem dist_eq {T:Tab} {s:ByteArray} {d:Nat} (hd:d < T.length) (hs:stops T s ((hm T.length s+d) % T.length)=true) (hb:∀ x,x < d→stops T s ((hm T.length s+x) % T.length)=false):dist T s=d:=by
 have h1:=dist_lt ⟨d,hd,hs⟩
 rcases Nat.lt_trichotomy (dist T s) d with h|h|h
 ·have:=hb _ h
  have h2:=dist_stops h1
  rw [find,this] at h2
  cases h2
 ·exact h
 ·have:=dist_before h
  rw [hs] at this
  cases this
theorem find_eq {T:Tab} {s:ByteArray} {d:Nat} (hd:d < T.length) (hs:stops T s ((hm T.length s+d) % T.length)=true) (hb:∀ x,x < d→stops T s ((hm T.length s+x) % T.length)=false):find T s=(hm T.length s+d) % T.length:=by
 rw [find,dist_eq hd hs hb]
theorem some_dist {n h j:Nat} (hj:j < n):∃ d,d < n∧(h+d) % n=j:=by
 refine ⟨(j+n - h % n) % n,Nat.mod_lt _ (by omega),?_⟩
 have h1:=Nat.mod_lt h (show 0 < n by omega)
 rw [Nat.add_mod_mod,← Nat.mod_add_mod,show h % n+(j+n - h % n)=j+n by omega,Nat.add_mod_right,Nat.mod_eq_of_lt hj]
theorem stops_free {T:Tab} {s:ByteArray} {i:Nat} (h:look T i=none):stops T s i=true:=by simp [stops,h]
theorem dist_free {T:Tab} (h:free T) (s:ByteArray):dist T s < T.length:=by
 obtain ⟨i,hi,hl⟩:=h
 obtain ⟨d,hd,he⟩:=some_dist (h:=hm T.length s) hi
 exact dist_lt ⟨d,hd,by rw [he];exact stops_free hl⟩
theorem find_lt {T:Tab} (h:0 < T.length) (s:ByteArray):find T s < T.length:=Nat.mod_lt _ h
theorem find_stops {T:Tab} (h:free T) (s:ByteArray):stops T s (find T s)=true:=dist_stops (dist_free h s)
theorem find_key {T:Tab} (h:free T) {s:ByteArray} {e:Ent} (he:look T (find T s)=some e):e.key=s:=by
 have:=find_stops h s
 simpa [stops,he] using this
theorem stops_key {T:Tab} {s:ByteArray} {i:Nat} {e:Ent} (h:look T i=some e):stops T s i=decide (e.key=s):=by
 simp only [stops,h]
theorem stops_set_ne {T:Tab} {s:ByteArray} {i j:Nat} {o:Option Ent} (h:i≠j):stops (T.set i o) s j=stops T s j:=by simp only [stops,look_set_ne h]
theorem wf_dist {T:Tab} (h:WF T) {j:Nat} {e:Ent} (he:look T j=some e):dist T e.key < T.length:=by
 have hj:=look_lt he
 obtain ⟨d,hd,hp⟩:=some_dist (h:=hm T.length e.key) hj
 exact dist_lt ⟨d,hd,by rw [hp,stops_key he];simp⟩
theorem wf_lay {T:Tab} (hw:WF T) (hf:free T) (e:Ent):WF (lay T e):=by
 intro j f hj
 have h0:0 < T.length:=by obtain ⟨i,hi,_⟩:=hf;omega
 have hl:(lay T e).length=T.length:=by simp [lay]
 have hs:find T e.key < T.length:=find_lt h0 _
 by_cases hje:find T e.key=j
 ·rw [lay,← hje,look_set_same hs] at hj
  injection hj with hj
  subst hj
  rw [← hje]
  have hd:=dist_free hf e.key
  have:=find_eq (T:=lay T e) (s:=e.key) (d:=dist T e.key) (by rw [hl];exact hd) ?_ ?_
  ·rw [this,hl];rfl
  ·rw [hl]
   show stops (lay T e) e.key (find T e.key)=true
   rw [lay,stops_key (look_set_same hs)]
   simp
  ·intro x hx
   rw [hl]
   have h1:=dist_before hx
   rw [lay,stops_set_ne]
   ·exact h1
   ·intro h2
    rw [← h2,dist_stops hd] at h1
    cases h1
 ·rw [lay,look_set_ne hje] at hj
  have hwj:=hw j f hj
  have hd:=wf_dist hw hj
  have:=find_eq (T:=lay T e) (s:=f.key) (d:=dist T f.key) (by rw [hl];exact hd) ?_ ?_
  ·rw [this,hl,← hwj];rfl
  ·rw [hl]
   show stops (lay T e) f.key (find T f.key)=true
   rw [hwj,lay,stops_set_ne hje,stops_key hj]
   simp
  ·intro x hx
   rw [hl]
   have h1:=dist_before hx
   by_cases hp:find T e.key=(hm T.length f.key+x) % T.length
   ·rw [← hp,lay,stops_key (look_set_same hs)]
    by_cases hk:e.key=f.key
    ·rw [hk,hwj] at hje
     exact absurd rfl hje
    ·simp [hk]
   ·rw [lay,stops_set_ne hp]
    exact h1
theorem lay_length (T:Tab) (e:Ent):(lay T e).length=T.length:=by simp [lay]
theorem look_one {T:Tab} (hw:WF T) {i j:Nat} {e f:Ent} (hi:look T i=some e) (hj:look T j=some f) (h:e.key=f.key):i=j:=by
 rw [← hw i e hi,← hw j f hj,h]
def ask (T:Tab) (s:ByteArray):Option Ent:=look T (find T s)
theorem ask_iff {T:Tab} (hw:WF T) (hf:free T) {s:ByteArray} {e:Ent}:ask T s=some e ↔ some e ∈ T∧e.key=s:=by
 constructor
 ·intro h
  exact ⟨look_mem.2 ⟨_,h⟩,find_key hf h⟩
 ·rintro ⟨h1,rfl⟩
  obtain ⟨j,hj⟩:=look_mem.1 h1
  rw [ask,hw j e hj,hj]
theorem mem_lay {T:Tab} (hw:WF T) (hf:free T) {e f:Ent}:some f ∈ lay T e ↔ f=e∨(some f ∈ T∧f.key≠e.key):=by
 have h0:0 < T.length:=by obtain ⟨i,hi,_⟩:=hf;omega
 have hs:find T e.key < T.length:=find_lt h0 _
 rw [look_mem]
 constructor
 ·rintro ⟨j,hj⟩
  by_cases hje:find T e.key=j
  ·rw [lay,hje,look_set_same (hje ▸ hs)] at hj
   injection hj with hj
   exact .inl hj.symm
  ·rw [lay,look_set_ne hje] at hj
   refine .inr ⟨look_mem.2 ⟨j,hj⟩,fun hk=>hje ?_⟩
   rw [← hk]
   exact hw j f hj
 ·rintro (rfl|⟨h1,hk⟩)
  ·exact ⟨_,look_set_same hs⟩
  ·obtain ⟨j,hj⟩:=look_mem.1 h1
   refine ⟨j,?_⟩
   rw [lay,look_set_ne]
   ·exact hj
   ·intro h2
    rw [← h2] at hj
    exact hk (find_key hf hj)
theorem ask_lay {T:Tab} {e:Ent} (hw:WF T) (hf:free T) (hf':free (lay T e)) {s:ByteArray}:ask (lay T e) s=if s=e.key then some e else ask T s:=by
 apply Option.ext
 intro f
 rw [ask_iff (wf_lay hw hf e) hf',mem_lay hw hf]
 by_cases hs:s=e.key
 ·rw [if_pos hs]
  subst hs
  constructor
  ·rintro ⟨rfl|⟨_,h1⟩,h2⟩
   ·rfl
   ·exact absurd h2 h1
  ·rintro h
   injection h with h
   exact ⟨.inl h.symm,by rw [h]⟩
 ·rw [if_neg hs,ask_iff hw hf]
  constructor
  ·rintro ⟨rfl|⟨h1,_⟩,h2⟩
   ·exact absurd h2.symm hs
   ·exact ⟨h1,h2⟩
  ·rintro ⟨h1,h2⟩
   exact ⟨.inr ⟨h1,fun h=>hs (h2.symm.trans h)⟩,h2⟩
theorem cnt_set {T:Tab} {i:Nat} (hi:i < T.length) (o:Option Ent):cnt (T.set i o)+(if (look T i).isSome then 1 else 0)=cnt T+(if o.isSome then 1 else 0):=by
 have h1:look T i=T[i]:=by simp [look,List.getD,hi]
 have h2:=List.countP_set (p:=Option.isSome) (l:=T) (a:=o) hi
 have h3:(if (T[i]).isSome=true then 1 else 0)≤T.countP Option.isSome:=by
  split
  ·rename_i h
   exact List.countP_pos_iff.2 ⟨_,List.getElem_mem hi,h⟩
  ·omega
 rw [h1]
 unfold cnt
 omega
theorem cnt_le (T:Tab):cnt T≤T.length:=List.countP_le_length
theorem free_of_cnt {T:Tab} (h:cnt T < T.length):free T:=by
 apply Classical.byContradiction
 intro hn
 have:∀ o ∈ T,o.isSome=true:=by
  intro o ho
  obtain ⟨j,hj,rfl⟩:=List.getElem_of_mem ho
  apply Classical.byContradiction
  intro h1
  refine hn ⟨j,hj,?_⟩
  simp [look,List.getD,hj]
  simpa using h1
 have:=List.countP_eq_length.2 this
 unfold cnt at h
 omega
theorem cnt_new (n:Nat):cnt (List.replicate n none)=0:=by simp [cnt,List.countP_replicate]
theorem look_new (n i:Nat):look (List.replicate n none) i=none:=by
 simp only [look,List.getD,List.getElem?_replicate]
 split <;> rfl
theorem wf_new (n:Nat):WF (List.replicate n none):=by
 intro j e h
 rw [look_new] at h
 cases h
theorem cnt_lay {T:Tab} (hf:free T) (e:Ent):cnt (lay T e)=cnt T+(if (ask T e.key).isSome then 0 else 1):=by
 have h0:0 < T.length:=by obtain ⟨i,hi,_⟩:=hf;omega
 have:=cnt_set (find_lt h0 e.key) (some e)
 simp only [Option.isSome_some,if_true] at this
 unfold ask lay
 split at this <;> rename_i h
 ·simp only [h,if_true];omega
 ·rw [if_neg h];omega
end Go.Proofs.YtgjofinbdigmcaaGreat.Key
end

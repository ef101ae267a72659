/- Heaps as plain lists: an item that moves up, an item that moves down; the least one is the first one. Rows of items in memory, the program's heap, and how its methods are reached through the library's interface. Contracts of the methods of the heap's places that look, and of Swap. -/
import Derived.Test.YtgjofinbdigmcaaGreatG07
import Derived.Test.YtgjofinbdigmcaaGreatG02
import Derived.Test.YtgjofinbdigmcaaGreatG03
import Derived.WalkKit
import Derived.Deep.QuietTactic
import Derived.BigQuiet
import Derived.Deep.MidRow
import Derived.Lib.Hide
set_option linter.unusedSimpArgs false
set_option linter.unusedVariables false
set_option maxHeartbeats 1000000
set_option maxRecDepth 100000
section
namespace Go.Proofs.YtgjofinbdigmcaaGreat.Exp
def nil:It:=⟨0,⟨#[]⟩⟩
def look (l:List It) (i:Nat):It:=l.getD i nil
theorem look_get {l:List It} {i:Nat} (h:i < l.length):look l i=l[i]:=by simp [look,List.getD,h]
theorem look_set {l:List It} {i j:Nat} {x:It} (h:i < l.length):look (l.set i x) j=if j=i then x else look l j:=by
 simp only [look,List.getD,List.getElem?_set]
 by_cases hj:i=j
 ·subst hj;simp [h]
 ·rw [if_neg hj,if_neg (Ne.symm hj)]
def swap (l:List It) (i j:Nat):List It:=(l.set i (look l j)).set j (look l i)
theorem swap_length (l:List It) (i j:Nat):(swap l i j).length=l.length:=by simp [swap]
theorem look_swap {l:List It} {i j k:Nat} (hi:i < l.length) (hj:j < l.length):look (swap l i j) k=if k=j then look l i else if k=i then look l j else look l k:=by
 unfold swap
 rw [look_set (by rw [List.length_set];exact hj),look_set hi]
theorem swap_perm {l:List It} {i j:Nat} (hi:i < l.length) (hj:j < l.length):(swap l i j).Perm l:=by
 have h:=Array.swap_perm (xs:=l.toArray) (i:=i) (j:=j) (by simpa using hi) (by simpa using hj)
 have h2:=h.toList
 have e:(l.toArray.swap i j (by simpa using hi) (by simpa using hj)).toList=swap l i j:=by
  unfold swap
  rw [look_get hi,look_get hj]
  simp [Array.swap]
 rw [e] at h2
 exact h2
def par (i:Nat):Nat:=(i - 1) / 2
theorem par_lt {i:Nat} (h:0 < i):par i < i:=by unfold par;omega
def Hp (l:List It):Prop:=∀ i,0 < i→i < l.length→le (look l (par i)) (look l i)
theorem hp_root {l:List It} (h:Hp l):∀ i,i < l.length→le (look l 0) (look l i):=by
 intro i
 induction i using Nat.strongRecOn with
 | _ i ih =>
  intro hi
  by_cases h0:i=0
  ·subst h0;exact le_refl _
  ·have hp:=par_lt (i:=i) (by omega)
   exact le_trans (ih (par i) hp (by omega)) (h i (by omega) hi)
theorem hp_nil:Hp []:=fun i _ h=>by simp at h
structure UpAt (l:List It) (i:Nat):Prop where
 rest:∀ j,0 < j→j < l.length→j≠i→le (look l (par j)) (look l j)
 past:0 < i→∀ j,0 < j→j < l.length→par j=i→le (look l (par i)) (look l j)
theorem UpAt.done {l:List It} {i:Nat} (h:UpAt l i) (hi:i=0∨le (look l (par i)) (look l i)):Hp l:=fun j h0 hj=>by
 by_cases hji:j=i
 ·subst hji
  rcases hi with hi|hi
  ·omega
  ·exact hi
 ·exact h.rest j h0 hj hji
theorem UpAt.swap {l:List It} {i:Nat} (h:UpAt l i) (h0:0 < i) (hi:i < l.length) (hlt:lt (look l i) (look l (par i))=true):UpAt (swap l i (par i)) (par i):=by
 have hp:=par_lt h0
 have hpl:par i < l.length:=by omega
 have hle:=lt_le hlt
 refine ⟨fun j h1 h2 h3=>?_,fun h1 j h2 h3 h4=>?_⟩
 ·rw [swap_length] at h2
  rw [look_swap hi hpl,look_swap hi hpl]
  have hjp:=par_lt h1
  by_cases hji:j=i
  ·subst hji
   rw [if_pos rfl,if_neg (by omega),if_pos rfl]
   exact hle
  ·rw [if_neg h3,if_neg hji]
   by_cases hpp:par j=par i
   ·rw [if_pos hpp]
    have:=h.rest j h1 h2 hji
    rw [hpp] at this
    exact le_trans hle this
   ·rw [if_neg hpp]
    by_cases hpi:par j=i
    ·rw [if_pos hpi]
     exact h.past h0 j h1 h2 hpi
    ·rw [if_neg hpi]
     exact h.rest j h1 h2 hji
 ·rw [swap_length] at h3
  rw [look_swap hi hpl,look_swap hi hpl]
  have hpp:=par_lt h1
  have hj:j≠par i:=by intro e;have:=par_lt h2;omega
  rw [if_neg (by omega:par (par i)≠par i),if_neg (by omega:par (par i)≠i),if_neg hj]
  have hup:=h.rest (par i) h1 hpl (by omega)
  by_cases hji:j=i
  ·rw [if_pos hji]
   exact hup
  ·rw [if_neg hji]
   have:=h.rest j h2 h3 hji
   rw [h4] at this
   exact le_trans hup this
theorem UpAt.last {l:List It} (h:Hp l) (x:It):UpAt (l++[x]) l.length:=by
 have hl:∀ j,j < l.length→look (l++[x]) j=look l j:=fun j hj=>by simp [look,List.getD,List.getElem?_append_left hj]
 refine ⟨fun j h0 h1 h2=>?_,fun h0 j h1 h2 h3=>?_⟩
 ·simp at h1
  have hp:=par_lt h0
  rw [hl j (by omega),hl (par j) (by omega)]
  exact h j h0 (by omega)
 ·simp at h2
  have hp:=par_lt h1
  omega
def up:Nat→List It→Nat→List It
 | 0,l,i=>l
 | f+1,l,i=>if 0 < i∧lt (look l i) (look l (par i))=true then up f (swap l i (par i)) (par i) else l
theorem up_all:∀ {f:Nat} {l:List It} {i:Nat},UpAt l i→i < l.length→i < f→Hp (up f l i)∧(up f l i).Perm l
 | 0,l,i,_,_,h=>by omega
 | f+1,l,i,h,hi,hf=>by
  unfold up
  by_cases hc:0 < i∧lt (look l i) (look l (par i))=true
  ·rw [if_pos hc]
   have hp:=par_lt hc.1
   obtain ⟨k1,k2⟩:=up_all (f:=f) (h.swap hc.1 hi hc.2) (by rw [swap_length];omega) (by omega)
   exact ⟨k1,k2.trans (swap_perm hi (by omega))⟩
  ·rw [if_neg hc]
   refine ⟨h.done ?_,List.Perm.refl _⟩
   by_cases h0:i=0
   ·exact .inl h0
   ·refine .inr ?_
    unfold le
    cases hx:lt (look l i) (look l (par i)) with
    | false=>rfl
    | true=>exact absurd ⟨by omega,hx⟩ hc
structure DownAt (l:List It) (i:Nat):Prop where
 rest:∀ j,0 < j→j < l.length→par j≠i→le (look l (par j)) (look l j)
 past:0 < i→∀ j,0 < j→j < l.length→par j=i→le (look l (par i)) (look l j)
theorem DownAt.done {l:List It} {i:Nat} (h:DownAt l i) (hc:∀ j,0 < j→j < l.length→par j=i→le (look l i) (look l j)):Hp l:=fun j h0 hj=>by
 by_cases hp:par j=i
 ·rw [hp];exact hc j h0 hj hp
 ·exact h.rest j h0 hj hp
theorem par_two {i j:Nat} (h0:0 < j) (h:par j=i):j=2 * i+1∨j=2 * i+2:=by unfold par at h;omega
theorem DownAt.swap {l:List It} {i c:Nat} (h:DownAt l i) (h0:0 < c) (hc:c < l.length) (hp:par c=i) (hlt:lt (look l c) (look l i)=true) (hmin:∀ j,0 < j→j < l.length→par j=i→le (look l c) (look l j)):DownAt (swap l i c) c:=by
 have hic:i < c:=by have:=par_lt h0;omega
 have hi:i < l.length:=by omega
 have hle:=lt_le hlt
 refine ⟨fun j h1 h2 h3=>?_,fun h1 j h2 h3 h4=>?_⟩
 ·rw [swap_length] at h2
  rw [look_swap hi hc,look_swap hi hc]
  have hjp:=par_lt h1
  by_cases hjc:j=c
  ·subst hjc
   rw [if_pos rfl,if_neg (by omega),if_pos hp]
   exact hle
  ·rw [if_neg hjc,if_neg h3]
   by_cases hji:j=i
   ·subst hji
    rw [if_pos rfl,if_neg (by omega)]
    exact h.past h1 c h0 hc hp
   ·rw [if_neg hji]
    by_cases hpi:par j=i
    ·rw [if_pos hpi]
     exact hmin j h1 h2 hpi
    ·rw [if_neg hpi]
     exact h.rest j h1 h2 hpi
 ·rw [swap_length] at h3
  rw [look_swap hi hc,look_swap hi hc]
  have hjc:j≠c:=by intro e;have:=par_lt h2;omega
  have hji:j≠i:=by intro e;have:=par_lt h2;omega
  rw [hp,if_neg (by omega),if_pos rfl,if_neg hjc,if_neg hji]
  have:=h.rest j h2 h3 (by omega)
  rw [h4] at this
  exact this
def least (l:List It) (i:Nat):Nat:=if 2 * i+2 < l.length∧lt (look l (2 * i+2)) (look l (2 * i+1))=true then 2 * i+2 else 2 * i+1
theorem least_min {l:List It} {i:Nat} (h:2 * i+1 < l.length):0 < least l i∧least l i < l.length∧par (least l i)=i∧∀ j,0 < j→j < l.length→par j=i→le (look l (least l i)) (look l j):=by
 unfold least
 split
 ·rename_i hc
  refine ⟨by omega,hc.1,by unfold par;omega,fun j h0 hj hp=>?_⟩
  rcases par_two h0 hp with rfl|rfl
  ·exact lt_le hc.2
  ·exact le_refl _
 ·rename_i hc
  refine ⟨by omega,h,by unfold par;omega,fun j h0 hj hp=>?_⟩
  rcases par_two h0 hp with rfl|rfl
  ·exact le_refl _
  ·unfold le
   cases hx:lt (look l (2 * i+2)) (look l (2 * i+1)) with
   | false=>rfl
   | true=>exact absurd ⟨hj,hx⟩ hc
def down:Nat→List It→Nat→List It
 | 0,l,i=>l
 | f+1,l,i=>if 2 * i+1 < l.length then (if lt (look l (least l i)) (look l i)=true then down f (swap l i (least l i)) (least l i) else l) else l
theorem down_all:∀ {f:Nat} {l:List It} {i:Nat},DownAt l i→l.length < f+i+1→Hp (down f l i)∧(down f l i).Perm l
 | 0,l,i,h,hf=>⟨h.done (fun j h0 hj hp=>by have:=par_lt h0;omega),List.Perm.refl _⟩
 | f+1,l,i,h,hf=>by
  unfold down
  by_cases hc:2 * i+1 < l.length
  ·rw [if_pos hc]
   obtain ⟨m1,m2,m3,m4⟩:=least_min hc
   have hic:i < least l i:=by have:=par_lt m1;omega
   by_cases hl:lt (look l (least l i)) (look l i)=true
   ·rw [if_pos hl]
    obtain ⟨k1,k2⟩:=down_all (f:=f) (h.swap m1 m2 m3 hl m4) (by rw [swap_length];omega)
    exact ⟨k1,k2.trans (swap_perm (by omega) m2)⟩
   ·rw [if_neg hl]
    refine ⟨h.done (fun j h0 hj hp=>?_),List.Perm.refl _⟩
    have h1:le (look l i) (look l (least l i)):=by
     unfold le
     cases hx:lt (look l (least l i)) (look l i) with
     | false=>rfl
     | true=>exact absurd hx hl
    exact le_trans h1 (m4 j h0 hj hp)
  ·rw [if_neg hc]
   refine ⟨h.done (fun j h0 hj hp=>?_),List.Perm.refl _⟩
   rcases par_two h0 hp with rfl|rfl <;> omega
theorem DownAt.first {l:List It} (h:Hp l) (x:It):DownAt (l.set 0 x) 0:=by
 refine ⟨fun j h0 hj hp=>?_,fun h0=>by omega⟩
 rw [List.length_set] at hj
 have hl:0 < l.length:=by omega
 rw [look_set hl,look_set hl,if_neg hp,if_neg (by omega)]
 exact h j h0 hj
theorem hp_take {l:List It} (h:Hp l) (n:Nat):Hp (l.take n):=by
 intro j h0 hj
 rw [List.length_take] at hj
 have hp:=par_lt h0
 have e:∀ k,k < n→look (l.take n) k=look l k:=fun k hk=>by simp [look,List.getD,hk]
 rw [e j (by omega),e (par j) (by omega)]
 exact h j h0 (by omega)
theorem least_one {x y:It} {h m:List It} (hh:Hp (x :: h)) (hm:Ris (y :: m)) (hp:(x :: h).Perm (y :: m)):x=y:=by
 have h1:le x y:=by
  have hy:y ∈ x :: h:=hp.symm.subset (List.mem_cons_self ..)
  obtain ⟨i,hi,he⟩:=List.getElem_of_mem hy
  have:=hp_root hh i hi
  rw [look_get hi,he] at this
  exact this
 have h2:le y x:=by
  have hx:x ∈ y :: m:=hp.subset (List.mem_cons_self ..)
  rcases List.mem_cons.1 hx with e|e
  ·rw [e];exact le_refl _
  ·exact (List.pairwise_cons.1 hm).1 x e
 exact le_antisymm h1 h2
end Go.Proofs.YtgjofinbdigmcaaGreat.Exp
end
section
namespace Go.Proofs.YtgjofinbdigmcaaGreat.Exp
open Go.Proofs.YtgjofinbdigmcaaGreat.Mem
open Go.ChangeShapes Go.WideShapes Go.ChangeAt Go.RowKit
theorem flat_length {α:Type} {f:α→List Value} {k:Nat} (hf:∀ x,(f x).length=k):∀ l:List α,(l.flatMap f).length=l.length * k
 | []=>by simp
 | x :: r=>by
  rw [List.flatMap_cons,List.length_append,hf,flat_length hf r,List.length_cons,Nat.add_mul]
  omega
theorem flat_get {α:Type} {f:α→List Value} {k:Nat} (hf:∀ x,(f x).length=k):∀ {l:List α} {i j:Nat} {x:α},l[i]?=some x→j < k→(l.flatMap f)[i * k+j]?=(f x)[j]?
 | [],i,j,x,h,_=>by simp at h
 | y :: r,i,j,x,h,hj=>by
  rw [List.flatMap_cons]
  cases i with
  | zero =>
   simp at h
   subst h
   rw [Nat.zero_mul,Nat.zero_add,List.getElem?_append_left (by rw [hf];exact hj)]
  | succ i =>
   have ih:=flat_get hf (l:=r) (i:=i) (j:=j) (x:=x) (by simpa using h) hj
   rw [List.getElem?_append_right (by rw [hf,Nat.add_mul];omega),hf,Nat.add_mul,show i * k+1 * k+j - k=i * k+j by omega]
   exact ih
theorem blk_setCells {g:Nat} {t:TypeId}:∀ {vs A B C:List Value} {w:World},Blk w g t (A++B++C).toArray→B.length=vs.length→Blk (w.setCells g A.length vs) g t (A++vs++C).toArray
 | [],A,B,C,w,h,hl=>by
  have:B=[]:=List.eq_nil_of_length_eq_zero (by simpa using hl)
  subst this
  exact h
 | v :: vs,A,[],C,w,h,hl=>by simp at hl
 | v :: vs,A,b :: B,C,w,h,hl=>by
  rw [World.setCells]
  have h1:=h.set_ A.length v
  have e:((A++b :: B++C).toArray.setIfInBounds A.length v)=((A++[v])++B++C).toArray:=by
   simp [List.append_assoc]
  rw [e] at h1
  have:=blk_setCells (vs:=vs) (A:=A++[v]) (B:=B) (C:=C) h1 (by simpa using hl)
  simpa [List.append_assoc] using this
theorem but_setCells (g:Nat):∀ (vs:List Value) (o:Nat) (w:World),But (fun k=>k=g) w (w.setCells g o vs)
 | [],o,w=>But.refl _ w
 | v :: vs,o,w=>by
  rw [World.setCells]
  exact ((But.refl (fun k=>k=g) w).setCell (p:=⟨g,o,none⟩) rfl v).trans' (but_setCells g vs (o+1) _)
theorem flat_split {α:Type} {f:α→List Value} {l:List α} {i:Nat} {x:α} (h:l[i]?=some x):l.flatMap f=(l.take i).flatMap f++f x++(l.drop (i+1)).flatMap f:=by
 obtain ⟨hi,rfl⟩:=List.getElem?_eq_some_iff.1 h
 have e:l=l.take i++l[i] :: l.drop (i+1):=by rw [← List.drop_eq_getElem_cons hi,List.take_append_drop]
 have e2:=congrArg (fun l=>l.flatMap f) e
 simp only [List.flatMap_append,List.flatMap_cons] at e2
 rw [List.append_assoc]
 exact e2
theorem flat_set {α:Type} {f:α→List Value} {l:List α} {i:Nat} (y:α) (hi:i < l.length):(l.set i y).flatMap f=(l.take i).flatMap f++f y++(l.drop (i+1)).flatMap f:=by
 have e:l.set i y=l.take i++y :: l.drop (i+1):=List.set_eq_take_append_cons_drop.trans (by rw [if_pos hi])
 rw [e]
 simp [List.flatMap_append,List.append_assoc]
def icells (x:It):List Value:=[.int .u64 (x.time:Int),.string x.key]
theorem icells_length (x:It):(icells x).length=2:=rfl
theorem icells_one (x:It):∀ v ∈ icells x,v.oneCell'=true:=by
 intro v hv
 simp only [icells,List.mem_cons,List.not_mem_nil,or_false] at hv
 rcases hv with rfl|rfl <;> rfl
def rowI (l:List It):List Value:=l.flatMap icells
theorem rowI_length (l:List It):(rowI l).length=l.length * 2:=flat_length icells_length l
theorem look_some {l:List It} {i:Nat} (h:i < l.length):l[i]?=some (look l i):=by simp [look,List.getD,h]
theorem item_info:(Tryz.prog.info? 68).map (fun i=>(i.zero,i.size,i.bytes))=some (some (.agg (icells nil).toArray),2,24):=by kernel_rfl
theorem item_size:(Tryz.prog.info? 68).map (·.size)=some 2:=by kernel_rfl
structure IRow (w:World) (t:TypeId) (g:Nat) (l:List It) (rest:List Value):Prop where
 blk:Blk w g t (rowI l++rest).toArray
section
variable {w w':World} {t:TypeId} {g:Nat} {l:List It} {rest:List Value}
theorem IRow.range (h:IRow w t g l rest) {i:Nat} (hi:i < l.length):w.rangeAt g (i * 2) (icells (look l i)):=by
 intro j v hv
 have hj:j < 2:=by rw [← icells_length (look l i)];exact (List.getElem?_eq_some_iff.1 hv).1
 rw [h.blk.cell,List.getElem?_toArray,List.getElem?_append_left (by rw [rowI_length];omega)]
 unfold rowI
 rw [flat_get icells_length (look_some hi) hj]
 exact hv
theorem IRow.cells (h:IRow w t g l rest) {i:Nat} (hi:i < l.length):w.cell? ⟨g,i * 2,none⟩=some (.int .u64 ((look l i).time:Int))∧w.cell? ⟨g,i * 2+1,none⟩=some (.string (look l i).key) :=
 ⟨h.range hi 0 _ rfl,h.range hi 1 _ rfl⟩
theorem IRow.there (h:IRow w t g l rest) {i:Nat} (hi:i < l.length):w.there g (i * 2) 2:=by
 intro j hj
 refine ⟨?_,h.blk.frozen _⟩
 exact (h.range hi).isSome j (by rw [icells_length];exact hj)
theorem IRow.put (h:IRow w t g l rest) {i:Nat} (hi:i < l.length) (y:It):IRow (w.setCells g (i * 2) (icells y)) t g (l.set i y) rest:=by
 refine ⟨?_⟩
 have h1:=h.blk
 unfold rowI at h1 ⊢
 rw [flat_split (look_some hi),List.append_assoc] at h1
 have:=blk_setCells (vs:=icells y) h1 (by rw [icells_length,icells_length])
 rw [flat_length icells_length,List.length_take,Nat.min_eq_left (by omega)] at this
 rw [flat_set y hi,List.append_assoc]
 exact this
theorem IRow.but {F:Nat→Prop} (h:IRow w t g l rest) (hb:But F w w') (h1:¬ F g):IRow w' t g l rest:=⟨h.blk.but hb h1⟩
theorem IRow.drewN (h:IRow w t g l rest) (q:Nat):IRow (w.drewN q) t g l rest:=⟨h.blk⟩
end
structure HAt (w:World) (B p:Nat) (v:Value) (l:List It):Prop where
 blk:Blk w p 97 #[v]
 own:w.ownsRow B 68 2 v l.length (rowI l)
 base:B≤p
 few:l.length≤1000
def Foot (p:Nat) (v:Value) (k:Nat):Prop:=k=p∨some k=v.ownBlock
def Next (w:World) (v v':Value):Prop:=v'.ownBlock=v.ownBlock∨∀ k,v'.ownBlock=some k→w.heap.size≤k
section
variable {w w' w'':World} {B p:Nat} {v v' v'':Value} {l:List It}
theorem HAt.but {F:Nat→Prop} (h:HAt w B p v l) (hb:But F w w') (h1:¬ F p) (h2:∀ k,v.ownBlock=some k→¬ F k):HAt w' B p v l :=
 ⟨h.blk.but hb h1,ownsRow_but h.own hb h2,h.base,h.few⟩
theorem HAt.new (h:HAt w B p v l) (hb:But (fun _=>False) w w'):HAt w' B p v l:=h.but hb (fun h=>h) (fun _ _ h=>h)
theorem HAt.row (h:HAt w B p v l) (hl:0 < l.length):∃ g cap rest,v = .slice (some ⟨g,0,none⟩) l.length cap∧l.length≤cap∧cap≤maxLen∧B≤g∧rest.length=(cap - l.length) * 2∧IRow w 68 g l rest:=by
 rcases h.own.2 with ⟨_,h2⟩|⟨g,cap,cur,h1,h2,h3,h4,h5,h6,h7⟩
 ·omega
 ·refine ⟨g,cap,cur.toList.drop (l.length * 2),h1,h4,h5,h2,?_,⟨?_⟩⟩
  ·rw [List.length_drop,Array.length_toList,h6,Nat.sub_mul]
  ·show w.heap[g]?=_
   rw [← h7,List.take_append_drop,Array.toArray_toList]
   exact h3
theorem HAt.shape (h:HAt w B p v l):∃ a cap,v = .slice a l.length cap:=by
 rcases h.own.2 with ⟨h1,h2⟩|⟨g,cap,cur,h1,_⟩
 ·exact ⟨none,0,by rw [h1,h2]⟩
 ·exact ⟨_,_,h1⟩
theorem HAt.lt (h:HAt w B p v l):p < w.heap.size∧∀ k,v.ownBlock=some k→B≤k∧k < w.heap.size∧k≠p:=by
 refine ⟨h.blk.lt,fun k hk=>⟨(h.own.lt k hk).1,(h.own.lt k hk).2,fun e=>?_⟩⟩
 exact own_blk_ne h.own h.blk (by decide) (by rw [hk,e])
theorem own_of_row {g cap:Nat} {rest:List Value} (h:IRow w 68 g l rest) (hB:B≤g) (hc:l.length≤cap) (hm:cap≤maxLen) (hr:rest.length=(cap - l.length) * 2) :
  w.ownsRow B 68 2 (.slice (some ⟨g,0,none⟩) l.length cap) l.length (rowI l):=by
 refine ⟨rowI_length l,.inr ⟨g,cap,_,rfl,hB,h.blk,hc,hm,?_,?_⟩⟩
 ·rw [List.size_toArray,List.length_append,rowI_length,hr,← Nat.add_mul]
  congr 1
  omega
 ·rw [List.toList_toArray,List.take_append_of_le_length (by rw [rowI_length];exact Nat.le_refl _),List.take_of_length_le (by rw [rowI_length];exact Nat.le_refl _)]
theorem Next.refl (w:World) (v:Value):Next w v v := .inl rfl
theorem Next.trans (h:Next w v v') (hs:w.heap.size≤w'.heap.size) (k:Next w' v' v''):Next w v v'':=by
 rcases k with k|k
 ·rcases h with h|h
  ·exact .inl (k.trans h)
  ·exact .inr (fun j hj=>h j (by rw [← k];exact hj))
 ·exact .inr (fun j hj=>Nat.le_trans hs (k j hj))
theorem foot_trans (h:But (Foot p v) w w') (n:Next w v v') (k:But (Foot p v') w' w''):But (Foot p v) w w'':=h.trans k (fun i hi hf=>by
 rcases hf with e|e
 ·exact .inl e
 ·rcases n with n|n
  ·exact .inr (e.trans n)
  ·have:=n i e.symm
   omega)
end
theorem m_len {w : World} {p : Nat} {v : Value} (h : w.cell? ⟨p, 0, none⟩ = some v) : Sem.run Tryz.prog (method (Tryz.prog.types.size + 100) 132 (.pointer (some ⟨p, 0, none⟩)) "Len") w = .ok (165, v) w := by
 have e : Sem.run Tryz.prog (method (Tryz.prog.types.size + 100) 132 (.pointer (some ⟨p, 0, none⟩)) "Len") w = Sem.run Tryz.prog (load ⟨p, 0, none⟩ >>= fun x => pure (165, x)) w := by kernel_rfl
 rw [e,Sem.run_bind]
 simp [h]
theorem m_less {w : World} {p : Nat} {v : Value} (h : w.cell? ⟨p, 0, none⟩ = some v) : Sem.run Tryz.prog (method (Tryz.prog.types.size + 100) 132 (.pointer (some ⟨p, 0, none⟩)) "Less") w = .ok (166, v) w := by
 have e : Sem.run Tryz.prog (method (Tryz.prog.types.size + 100) 132 (.pointer (some ⟨p, 0, none⟩)) "Less") w = Sem.run Tryz.prog (load ⟨p, 0, none⟩ >>= fun x => pure (166, x)) w := by kernel_rfl
 rw [e,Sem.run_bind]
 simp [h]
theorem m_swap {w : World} {p : Nat} {v : Value} (h : w.cell? ⟨p, 0, none⟩ = some v) : Sem.run Tryz.prog (method (Tryz.prog.types.size + 100) 132 (.pointer (some ⟨p, 0, none⟩)) "Swap") w = .ok (167, v) w := by
 have e : Sem.run Tryz.prog (method (Tryz.prog.types.size + 100) 132 (.pointer (some ⟨p, 0, none⟩)) "Swap") w = Sem.run Tryz.prog (load ⟨p, 0, none⟩ >>= fun x => pure (167, x)) w := by kernel_rfl
 rw [e,Sem.run_bind]
 simp [h]
theorem m_push (w : World) (x : Value) : Sem.run Tryz.prog (method (Tryz.prog.types.size + 100) 132 x "Push") w = .ok (171, x) w := by kernel_rfl
theorem m_pop (w : World) (x : Value) : Sem.run Tryz.prog (method (Tryz.prog.types.size + 100) 132 x "Pop") w = .ok (170, x) w := by kernel_rfl
end Go.Proofs.YtgjofinbdigmcaaGreat.Exp
end
section
namespace Go.Proofs.YtgjofinbdigmcaaGreat.Late
theorem Goes.anew {P:Program} {ops:Array Oper} {Q:Exit→Act→World→Prop} {S:World→Prop} {late late':Nat→Bool}:∀ {n:Nat} {li:Array Bool} {a:Act} {w:World},Goes P ops Q S late n li a w→Goes P ops Q (fun _=>True) late' n li a w
 | 0,_,_,_,h=>h
 | _+1,_,_,_,h=>⟨h.1,fun j hj=>wpOp_mono (fun _ _ k=>⟨fun _=>trivial,k.2.anew⟩) (h.2 j hj)⟩
end Go.Proofs.YtgjofinbdigmcaaGreat.Late
namespace Go.Proofs.YtgjofinbdigmcaaGreat.Exp
open Go.Proofs.YtgjofinbdigmcaaGreat.Mem
open Go.ChangeShapes Go.WideShapes Go.ChangeAt Go.RowKit
section
variable {w:World} {g:Nat} {l:List It} {rest:List Value}
theorem len_at (w:World) (a:Option Addr) (n cap:Nat):Calls Tryz.prog 165 #[.slice a n cap] w fun e w'=>e = .returned (.int .i64 (n:Int))∧w'=w:=by
 go_enter Tryz.func165,Tryz.ntmps165
 go_wp2
 go_ret
 exact ⟨rfl,rfl⟩
theorem lt_time {a b:It} (h:a.time≠b.time):lt a b=decide (a.time < b.time):=by
 unfold lt
 have:(a.time == b.time)=false:=beq_eq_false_iff_ne.2 h
 rw [this]
 simp
theorem lt_key {a b:It} (h:a.time=b.time):lt a b=Op.bytesLess a.key.toList b.key.toList:=by
 unfold lt
 rw [h]
 simp
theorem less_at (h:IRow w 68 g l rest) {i j:Nat} (hi:i < l.length) (hj:j < l.length) (hn:l.length≤1000) (cap:Nat) :
  Calls Tryz.prog 166 #[.slice (some ⟨g,0,none⟩) l.length cap,.int .i64 (i:Int),.int .i64 (j:Int)] w fun e w'=>e = .returned (.bool (lt (look l i) (look l j)))∧∃ q,w'=w.drewN q:=by
 have a0:=fun q=>((h.drewN q).cells hi).1
 have a1:=fun q=>((h.drewN q).cells hi).2
 have b0:=fun q=>((h.drewN q).cells hj).1
 have b1:=fun q=>((h.drewN q).cells hj).2
 obtain ⟨x,hx⟩:∃ x,x=look l i:=⟨_,rfl⟩
 obtain ⟨y,hy⟩:∃ y,y=look l j:=⟨_,rfl⟩
 rw [← hx] at a0 a1 ⊢
 rw [← hy] at b0 b1 ⊢
 obtain ⟨n,hln⟩:∃ n,n=l.length:=⟨_,rfl⟩
 rw [← hln] at hi hj hn ⊢
 clear hx hy hln h
 have hi0:(i:Int) < (n:Int):=by omega
 have hj0:(j:Int) < (n:Int):=by omega
 have c0:=a0 0
 have c1:=a1 0
 have d0:=b0 0
 have d1:=b1 0
 rw [World.drewN_zero] at c0 c1 d0 d1
 by_cases ht:x.time=y.time
 ·have he:((x.time:Int) == (y.time:Int))=true:=by rw [ht];exact beq_self_eq_true _
  rw [lt_key ht]
  go_enter Tryz.func166,Tryz.ntmps166
  go_wp2_with fail
  go_quiet (fail)
  obtain ⟨V,hV⟩:∃ V,V=w.drewN nq:=⟨_,rfl⟩
  have e1:=fun q=>show (V.drewN q).cell? ⟨g,i * 2+1,none⟩=some (.string x.key) from by rw [hV];exact a1 0
  have e2:=fun q=>show (V.drewN q).cell? ⟨g,j * 2+1,none⟩=some (.string y.key) from by rw [hV];exact b1 0
  rw [← hV]
  have HV:=Lib.hid hV
  clear hV a0 a1 b0 b1 c0 c1 d0 d1
  have f1:=e1 0
  have f2:=e2 0
  rw [World.drewN_zero] at f1 f2
  go_wp2_with fail
  go_quiet (fail)
  go_wp2_with fail
  go_ret
  exact ⟨rfl,_,by rw [HV.out,World.drewN_drewN]⟩
 ·have he:((x.time:Int) == (y.time:Int))=false:=beq_eq_false_iff_ne.2 (by omega)
  rw [lt_time ht]
  go_enter Tryz.func166,Tryz.ntmps166
  go_wp2_with fail
  go_quiet (fail)
  obtain ⟨V,hV⟩:∃ V,V=w.drewN nq:=⟨_,rfl⟩
  have e1:=fun q=>show (V.drewN q).cell? ⟨g,i * 2,none⟩=some (.int .u64 (x.time:Int)) from by rw [hV];exact a0 0
  have e2:=fun q=>show (V.drewN q).cell? ⟨g,j * 2,none⟩=some (.int .u64 (y.time:Int)) from by rw [hV];exact b0 0
  rw [← hV]
  have HV:=Lib.hid hV
  clear hV a0 a1 b0 b1 c0 c1 d0 d1
  have f1:=e1 0
  have f2:=e2 0
  rw [World.drewN_zero] at f1 f2
  go_wp2_with fail
  go_quiet (fail)
  go_wp2_with fail
  go_ret
  exact ⟨rfl,_,by rw [HV.out,World.drewN_drewN]⟩
theorem yields_item {ops:Array Oper} {S:World→Prop} {op:Oper} {a:Act} (hw:Region.wanted op (yielded ops a.tmps)=true) (x:Operand) (ho:op.op = .load 68 x) (b o:Nat) (hx:a.eval x = .pointer (some ⟨b,o,none⟩)) (q:It) (hS:∀ w,S w→w.rangeAt b o (icells q)):YieldsIf Tryz.prog ops S op (.agg #[.int .u64 (q.time:Int),.string q.key]) a :=
 yieldsIf_load_mid hw _ x ho b o hx (icells q) _ hS Tryz.underlying68 rfl (by rw [icells_length];exact item_size)
theorem wp_store_blk {ops:Array Oper} {op:Oper} {a:Act} {w:World} {K:Act→World→Prop} {Q:Exit→Act→World→Prop} {E:Prop} (hwd:Region.wanted op (yielded ops a.tmps)=true) (ty:TypeId) (x y:Operand) (ho:op.op = .store ty x y)
  (b o:Nat) (vs:List Value) (hx:a.eval x = .pointer (some ⟨b,o,none⟩)) (hy:a.eval y = .agg vs.toArray)
  (ht:w.there b o vs.length) (hi:(Tryz.prog.info? ty).map (·.size)=some vs.length) (h1:∀ v ∈ vs,v.oneCell'=true)
  (h:K (a.put op.dst undef) (w.setCells b o vs)):if Region.wanted op (yielded ops a.tmps)=true then Oper.wp Tryz.prog op a w K Q else E:=by
 rw [if_pos hwd]
 exact wp_store_mid ty x y ho b o vs.toArray hx hy (by simpa using ht) (by simpa using hi) (all_oneCell_toArray h1) (by simpa using h)
theorem swap_at (h:IRow w 68 g l rest) {i j:Nat} (hi:i < l.length) (hj:j < l.length) (hn:l.length≤1000) (cap:Nat) :
  Calls Tryz.prog 167 #[.slice (some ⟨g,0,none⟩) l.length cap,.int .i64 (i:Int),.int .i64 (j:Int)] w fun e w'=>e = .returned (.tuple #[])∧IRow w' 68 g (swap l i j) rest∧But (fun k=>k=g) w w':=by
 have HR1:=Lib.hid (fun V (hV:V=w.drew)=>show World.rangeAt V g (i * 2) (icells (look l i)) from by rw [hV];exact h.range hi)
 have HR2:=Lib.hid (fun V (hV:V=w.drew)=>show World.rangeAt V g (j * 2) (icells (look l j)) from by rw [hV];exact h.range hj)
 have h0:IRow w.drew 68 g l rest:=⟨h.blk⟩
 have h1:=h0.put hi (look l j)
 have h2:=h1.put (i:=j) (by rw [List.length_set];exact hj) (look l i)
 have HT1:=Lib.hid (h0.there hi)
 have HT2:=Lib.hid (h1.there (i:=j) (by rw [List.length_set];exact hj))
 have HE:=Lib.hid (show IRow ((w.drew.setCells g (i * 2) (icells (look l j))).setCells g (j * 2) (icells (look l i))) 68 g (swap l i j) rest from h2)
 have HB:=Lib.hid (show But (fun k=>k=g) w ((w.drew.setCells g (i * 2) (icells (look l j))).setCells g (j * 2) (icells (look l i))) from (((But.refl (fun k=>k=g) w).drew).trans' (but_setCells _ _ _ _)).trans' (but_setCells _ _ _ _))
 obtain ⟨x,hx⟩:∃ x,x=look l i:=⟨_,rfl⟩
 obtain ⟨y,hy⟩:∃ y,y=look l j:=⟨_,rfl⟩
 obtain ⟨R,hR⟩:∃ R,R=swap l i j:=⟨_,rfl⟩
 rw [← hx] at HR1 HE HB
 rw [← hy] at HR2 HT2 HE HB
 rw [← hR] at HE ⊢
 obtain ⟨n,hln⟩:∃ n,n=l.length:=⟨_,rfl⟩
 rw [← hln] at hi hj hn ⊢
 clear hx hy hln h h0 h1 h2 hR
 have hi0:(i:Int) < (n:Int):=by omega
 have hj0:(j:Int) < (n:Int):=by omega
 go_enter Tryz.func167,Tryz.ntmps167
 go_wp2_with fail
 refine Late.region_goes (fun _=>True) (fun _=>false) (by kernel_rfl) ?_ (fun hH=>?_)
 ·trivial
 refine Late.Goes.takeT (i:=2) (v:=?_) (by simp only [List.getElem?_toArray,List.getElem?_cons_succ,List.getElem?_cons_zero];rfl) (by kernel_rfl) (by kernel_rfl) (by kernel_rfl) (by kernel_rfl) (by kernel_rfl) (by exact fun _ _ _ h=>h) (Or.inl ⟨by rfl,?_⟩) hH ?_
 rotate_left
 ·(intro wy hSw;(try dsimp only at hSw);skip;go_simp;try (with_reducible rfl))
 try simp only [Act.put,List.setIfInBounds_toArray,List.set_cons_zero,List.set_cons_succ]
 refine Late.Goes.takeT (i:=3) (v:=?_) (by simp only [List.getElem?_toArray,List.getElem?_cons_succ,List.getElem?_cons_zero];rfl) (by kernel_rfl) (by kernel_rfl) (by kernel_rfl) (by kernel_rfl) (by kernel_rfl) (by exact fun _ _ _ h=>h) (Or.inl ⟨by rfl,?_⟩) hH ?_
 rotate_left
 ·(intro wy hSw;(try dsimp only at hSw);skip;go_simp;try (with_reducible rfl))
 try simp only [Act.put,List.setIfInBounds_toArray,List.set_cons_zero,List.set_cons_succ]
 refine Late.Goes.anew (S:=fun V=>V=w.drew) (late:=fun i => !(i != 13 && i != 14 && i != 15)) ?_
 have hH:(fun V=>V=w.drew) w.drew:=rfl
 refine Late.Goes.takeT (i:=0) (v:=?_) (by simp only [List.getElem?_toArray,List.getElem?_cons_succ,List.getElem?_cons_zero];rfl) (by kernel_rfl) (by kernel_rfl) (by kernel_rfl) (by kernel_rfl) (by kernel_rfl) (by exact fun _ _ _ h=>h) (Or.inl ⟨by rfl,?_⟩) hH ?_
 rotate_left
 ·(intro wy hSw;(try dsimp only at hSw);skip;go_simp;try (with_reducible rfl))
 try simp only [Act.put,List.setIfInBounds_toArray,List.set_cons_zero,List.set_cons_succ]
 refine Late.Goes.takeT (i:=1) (v:=?_) (by simp only [List.getElem?_toArray,List.getElem?_cons_succ,List.getElem?_cons_zero];rfl) (by kernel_rfl) (by kernel_rfl) (by kernel_rfl) (by kernel_rfl) (by kernel_rfl) (by exact fun _ _ _ h=>h) (Or.inl ⟨by rfl,?_⟩) hH ?_
 rotate_left
 ·(intro wy hSw;(try dsimp only at hSw);skip;go_simp;try (with_reducible rfl))
 try simp only [Act.put,List.setIfInBounds_toArray,List.set_cons_zero,List.set_cons_succ]
 refine Late.Goes.takeT (i:=4) (v:=?_) (by simp only [List.getElem?_toArray,List.getElem?_cons_succ,List.getElem?_cons_zero];rfl) (by kernel_rfl) (by kernel_rfl) (by kernel_rfl) (by kernel_rfl) (by kernel_rfl) (by exact fun _ _ _ h=>h) (Or.inl ⟨by rfl,?_⟩) hH ?_
 rotate_left
 ·(intro wy hSw;(try dsimp only at hSw);skip;go_simp;try (with_reducible rfl))
 try simp only [Act.put,List.setIfInBounds_toArray,List.set_cons_zero,List.set_cons_succ]
 refine Late.Goes.takeT (i:=5) (v:=?_) (by simp only [List.getElem?_toArray,List.getElem?_cons_succ,List.getElem?_cons_zero];rfl) (by kernel_rfl) (by kernel_rfl) (by kernel_rfl) (by kernel_rfl) (by kernel_rfl) (by exact fun _ _ _ h=>h) (Or.inl ⟨by rfl,?_⟩) hH ?_
 rotate_left
 ·(intro wy hSw;(try dsimp only at hSw);skip;go_simp;try (with_reducible rfl))
 try simp only [Act.put,List.setIfInBounds_toArray,List.set_cons_zero,List.set_cons_succ]
 refine Late.Goes.takeT (i:=6) (v:=?_) (by simp only [List.getElem?_toArray,List.getElem?_cons_succ,List.getElem?_cons_zero];rfl) (by kernel_rfl) (by kernel_rfl) (by kernel_rfl) (by kernel_rfl) (by kernel_rfl) (by exact fun _ _ _ h=>h) (Or.inl ⟨by rfl,?_⟩) hH ?_
 rotate_left
 ·(intro wy hSw;(try dsimp only at hSw);skip;go_simp;try (with_reducible rfl))
 try simp only [Act.put,List.setIfInBounds_toArray,List.set_cons_zero,List.set_cons_succ]
 refine Late.Goes.takeT (i:=7) (v:=_) (by simp only [List.getElem?_toArray,List.getElem?_cons_succ,List.getElem?_cons_zero];rfl) (by kernel_rfl) (by kernel_rfl) (by kernel_rfl) (by kernel_rfl) (by kernel_rfl) (by exact fun _ _ _ h=>h) (yields_item (by rfl) _ rfl g (j * 2) rfl y (fun V hV=>HR2.out V hV)) hH ?_
 try simp only [Act.put,List.setIfInBounds_toArray,List.set_cons_zero,List.set_cons_succ]
 refine Late.Goes.takeT (i:=8) (v:=?_) (by simp only [List.getElem?_toArray,List.getElem?_cons_succ,List.getElem?_cons_zero];rfl) (by kernel_rfl) (by kernel_rfl) (by kernel_rfl) (by kernel_rfl) (by kernel_rfl) (by exact fun _ _ _ h=>h) (Or.inl ⟨by rfl,?_⟩) hH ?_
 rotate_left
 ·(intro wy hSw;(try dsimp only at hSw);skip;go_simp;try (with_reducible rfl))
 try simp only [Act.put,List.setIfInBounds_toArray,List.set_cons_zero,List.set_cons_succ]
 refine Late.Goes.takeT (i:=9) (v:=?_) (by simp only [List.getElem?_toArray,List.getElem?_cons_succ,List.getElem?_cons_zero];rfl) (by kernel_rfl) (by kernel_rfl) (by kernel_rfl) (by kernel_rfl) (by kernel_rfl) (by exact fun _ _ _ h=>h) (Or.inl ⟨by rfl,?_⟩) hH ?_
 rotate_left
 ·(intro wy hSw;(try dsimp only at hSw);skip;go_simp;try (with_reducible rfl))
 try simp only [Act.put,List.setIfInBounds_toArray,List.set_cons_zero,List.set_cons_succ]
 refine Late.Goes.takeT (i:=10) (v:=?_) (by simp only [List.getElem?_toArray,List.getElem?_cons_succ,List.getElem?_cons_zero];rfl) (by kernel_rfl) (by kernel_rfl) (by kernel_rfl) (by kernel_rfl) (by kernel_rfl) (by exact fun _ _ _ h=>h) (Or.inl ⟨by rfl,?_⟩) hH ?_
 rotate_left
 ·(intro wy hSw;(try dsimp only at hSw);skip;go_simp;try (with_reducible rfl))
 try simp only [Act.put,List.setIfInBounds_toArray,List.set_cons_zero,List.set_cons_succ]
 refine Late.Goes.takeT (i:=11) (v:=_) (by simp only [List.getElem?_toArray,List.getElem?_cons_succ,List.getElem?_cons_zero];rfl) (by kernel_rfl) (by kernel_rfl) (by kernel_rfl) (by kernel_rfl) (by kernel_rfl) (by exact fun _ _ _ h=>h) (yields_item (by rfl) _ rfl g (i * 2) rfl x (fun V hV=>HR1.out V hV)) hH ?_
 try simp only [Act.put,List.setIfInBounds_toArray,List.set_cons_zero,List.set_cons_succ]
 refine Late.Goes.takeT (i:=12) (v:=?_) (by simp only [List.getElem?_toArray,List.getElem?_cons_succ,List.getElem?_cons_zero];rfl) (by kernel_rfl) (by kernel_rfl) (by kernel_rfl) (by kernel_rfl) (by kernel_rfl) (by exact fun _ _ _ h=>h) (Or.inl ⟨by rfl,?_⟩) hH ?_
 rotate_left
 ·(intro wy hSw;(try dsimp only at hSw);skip;go_simp;try (with_reducible rfl))
 try simp only [Act.put,List.setIfInBounds_toArray,List.set_cons_zero,List.set_cons_succ]
 refine Late.Goes.one (i:=13) (by kernel_rfl) (by simp only [List.getElem?_toArray,List.getElem?_cons_succ,List.getElem?_cons_zero];rfl) (fun K hK=>?_)
 clear hH
 refine wp_store_blk (by rfl) 68 _ _ rfl g (i * 2) (icells y) rfl rfl (by rw [icells_length];exact HT1.out) (by rw [icells_length];exact item_size) (icells_one _) ?_
 refine hK.out _ _ ?_ (fun _=>?_)
 ·exact fun h=>by cases h
 clear hK K
 try simp only [Act.put,List.setIfInBounds_toArray,List.set_cons_zero,List.set_cons_succ]
 have hH:True:=trivial
 generalize w.drew.setCells g (i * 2) (icells y)=W2 at HT2 HE HB ⊢
 refine Late.Goes.one (i:=14) (by kernel_rfl) (by simp only [List.getElem?_toArray,List.getElem?_cons_succ,List.getElem?_cons_zero];rfl) (fun K hK=>?_)
 clear hH
 go_simp
 refine hK.out _ _ ?_ (fun _=>?_)
 ·exact fun h=>by cases h
 clear hK K
 try simp only [Act.put,List.setIfInBounds_toArray,List.set_cons_zero,List.set_cons_succ]
 have hH:True:=trivial
 refine Late.Goes.one (i:=15) (by kernel_rfl) (by simp only [List.getElem?_toArray,List.getElem?_cons_succ,List.getElem?_cons_zero];rfl) (fun K hK=>?_)
 clear hH
 refine wp_store_blk (by rfl) 68 _ _ rfl g (j * 2) (icells x) rfl rfl (by rw [icells_length];exact HT2.out) (by rw [icells_length];exact item_size) (icells_one _) ?_
 refine hK.out _ _ ?_ (fun _=>?_)
 ·exact fun h=>by cases h
 clear hK K
 try simp only [Act.put,List.setIfInBounds_toArray,List.set_cons_zero,List.set_cons_succ]
 refine Late.Goes.done (by kernel_rfl) ?_ _
 go_wp2
 go_end0
 exact ⟨rfl,HE.out,HB.out⟩
end
end Go.Proofs.YtgjofinbdigmcaaGreat.Exp
end

/- The disk of the document, as plain data: files by names, of which the first bytes are synced; what each call makes of it. Rows of effects on a disk: what they come to if all are done, and what is left if the disk goes down at one of them. Numbers as bytes, the lowest byte first: what is put, what is read, and that what was put is read. Contracts of pack.Put, pack.PutText and the reference's Put and Text: what they append to a row of the caller's own. -/
import Derived.Test.YtbhoknnjilidnaaGreatDoorG01
import Derived.Test.YtbhoknnjilidnaaGreatDoorProg
import Derived.WalkKit
import Derived.ProofKit
import Derived.Below
import Derived.Outline
import Derived.WalkSpells
import Derived.WalkLawsBesides
import Derived.LoopTactic
import Derived.Lib.Hide
import Derived.WalkMore
import Derived.ScopeJumps
set_option linter.unusedVariables false
set_option maxHeartbeats 1000000
set_option maxRecDepth 100000
section
namespace Go.Proofs.YtbhoknnjilidnaaGreatDoor.Disk
open Go.Proofs.YtbhoknnjilidnaaGreatDoor.Mem Go.RowKit
abbrev Nm:=List UInt8
section
variable {α β:Type}
def look (n:Nm):List (Nm × α)→Option α
 | []=>none
 | x :: r=>if x.1=n then some x.2 else look n r
def upd (n:Nm) (h:α→α) (l:List (Nm × α)):List (Nm × α):=l.map fun x=>if x.1=n then (x.1,h x.2) else x
def del (n:Nm) (l:List (Nm × α)):List (Nm × α):=l.filter fun x=>decide (x.1≠n)
def ins (n:Nm) (a:α):List (Nm × α)→List (Nm × α)
 | []=>[(n,a)]
 | x :: r=>if x.1 < n then x :: ins n a r else (n,a) :: x :: r
def mapv (f:α→β) (l:List (Nm × α)):List (Nm × β):=l.map fun x=>(x.1,f x.2)
def Apart (l:List (Nm × α)):Prop:=l.Pairwise fun x y=>x.1≠y.1
theorem ins_perm (n:Nm) (a:α):∀ l:List (Nm × α),(ins n a l).Perm ((n,a) :: l)
 | []=>List.Perm.refl _
 | x :: r=>by
  unfold ins
  split
  ·exact ((ins_perm n a r).cons x).trans (List.Perm.swap _ _ _)
  ·exact List.Perm.refl _
theorem mem_ins {n:Nm} {a:α} {l:List (Nm × α)} {x:Nm × α}:x ∈ ins n a l ↔ x=(n,a)∨x ∈ l:=by
 rw [(ins_perm n a l).mem_iff,List.mem_cons]
theorem length_ins (n:Nm) (a:α) (l:List (Nm × α)):(ins n a l).length=l.length+1:=by
 rw [(ins_perm n a l).length_eq];rfl
theorem look_mem {n:Nm} {a:α}:∀ {l:List (Nm × α)},look n l=some a→(n,a) ∈ l
 | [],h=>by cases h
 | x :: r,h=>by
  unfold look at h
  split at h
  ·next e=>injection h with h;subst h;subst e;exact List.mem_cons_self
  ·exact List.mem_cons_of_mem _ (look_mem h)
theorem look_none {n:Nm}:∀ {l:List (Nm × α)},look n l=none ↔ ∀ x ∈ l,x.1≠n
 | []=>by simp [look]
 | x :: r=>by
  unfold look
  split
  ·next e=>simp [e]
  ·next e=>rw [look_none (l:=r)];simp [e]
theorem look_of_mem {n:Nm} {a:α}:∀ {l:List (Nm × α)},Apart l→(n,a) ∈ l→look n l=some a
 | [],_,h=>by cases h
 | x :: r,hp,h=>by
  obtain ⟨h1,h2⟩:=List.pairwise_cons.1 hp
  unfold look
  rcases List.mem_cons.1 h with e|h'
  ·subst e;simp
  ·rw [if_neg (h1 _ h'),look_of_mem h2 h']
theorem apart_ins {n:Nm} {a:α} {l:List (Nm × α)} (h:Apart l) (hn:look n l=none):Apart (ins n a l):=by
 refine ((ins_perm n a l).pairwise_iff (fun {x y} hne=>Ne.symm hne)).2 (List.pairwise_cons.2 ⟨fun x hx=>?_,h⟩)
 exact (look_none.1 hn x hx).symm
theorem apart_del {l:List (Nm × α)} (h:Apart l) (n:Nm):Apart (del n l):=h.filter _
theorem apart_upd {l:List (Nm × α)} (h:Apart l) (n:Nm) (f:α→α):Apart (upd n f l):=by
 refine List.pairwise_map.2 (h.imp fun {x y} hne=>?_)
 split <;> split <;> exact hne
theorem apart_mapv {l:List (Nm × α)} (h:Apart l) (f:α→β):Apart (mapv f l):=List.pairwise_map.2 h
theorem apart_of_mapv {l:List (Nm × α)} {f:α→β} (h:Apart (mapv f l)):Apart l:=by
 unfold Apart mapv at h
 rw [List.pairwise_map] at h
 exact h
theorem look_mapv (f:α→β) (n:Nm):∀ l:List (Nm × α),look n (mapv f l)=(look n l).map f
 | []=>rfl
 | x :: r=>by
  show (if x.1=n then some (f x.2) else look n (mapv f r))=Option.map f (if x.1=n then some x.2 else look n r)
  split
  ·rfl
  ·exact look_mapv f n r
theorem mapv_ins (f:α→β) (n:Nm) (a:α):∀ l:List (Nm × α),mapv f (ins n a l)=ins n (f a) (mapv f l)
 | []=>rfl
 | x :: r=>by
  show mapv f (if x.1 < n then x :: ins n a r else (n,a) :: x :: r)=(if x.1 < n then (x.1,f x.2) :: ins n (f a) (mapv f r) else (n,f a) :: (x.1,f x.2) :: mapv f r)
  split
  ·show (x.1,f x.2) :: mapv f (ins n a r)=_
   rw [mapv_ins f n a r]
  ·rfl
theorem mapv_del (f:α→β) (n:Nm):∀ l:List (Nm × α),mapv f (del n l)=del n (mapv f l)
 | []=>rfl
 | x :: r=>by
  have ih:=mapv_del f n r
  unfold del mapv at ih ⊢
  rw [List.map_cons,List.filter_cons,List.filter_cons]
  by_cases e:x.1=n
  ·simp [e] at ih ⊢; exact ih
  ·simp [e] at ih ⊢; exact ih
theorem mapv_upd {f:α→β} {h:α→α} {h':β→β} {n:Nm} {l:List (Nm × α)} (hc:∀ a,(n,a) ∈ l→f (h a)=h' (f a)):mapv f (upd n h l)=upd n h' (mapv f l):=by
 unfold mapv upd
 rw [List.map_map,List.map_map]
 refine List.map_congr_left fun x hx=>?_
 by_cases e:x.1=n
 ·have:=hc x.2 (by rw [← e];exact hx)
  simp [Function.comp,e,this]
 ·simp [Function.comp,e]
theorem mapv_mapv {γ:Type} (f:α→β) (g:β→γ) (l:List (Nm × α)):mapv g (mapv f l)=mapv (fun a=>g (f a)) l:=by
 unfold mapv;rw [List.map_map];rfl
theorem look_del_same {n:Nm} {l:List (Nm × α)}:look n (del n l)=none:=by
 rw [look_none]
 intro x hx
 simpa using (List.mem_filter.1 hx).2
theorem look_del_other {n m:Nm} (hne:m≠n):∀ l:List (Nm × α),look m (del n l)=look m l
 | []=>rfl
 | x :: r=>by
  have ih:=look_del_other hne r
  unfold del at ih ⊢
  rw [List.filter_cons]
  by_cases e:x.1=n
  ·rw [if_neg (by simp [e]),ih]
   show _=if x.1=m then _ else _
   rw [if_neg (by rw [e];exact hne.symm)]
  ·rw [if_pos (by simp [e])]
   show (if x.1=m then _ else look m _)=if x.1=m then _ else _
   rw [ih]
theorem look_ins_same {n:Nm} {a:α} {l:List (Nm × α)} (h:Apart l) (hn:look n l=none):look n (ins n a l)=some a :=
 look_of_mem (apart_ins h hn) (mem_ins.2 (.inl rfl))
theorem look_ins_other {n m:Nm} {a:α} {l:List (Nm × α)} (h:Apart l) (hn:look n l=none) (hne:m≠n):look m (ins n a l)=look m l:=by
 have h2:=apart_ins (a:=a) h hn
 cases e:look m l with
 | none =>
  rw [look_none] at e ⊢
  intro x hx
  rcases mem_ins.1 hx with rfl|hx
  ·exact hne.symm
  ·exact e x hx
 | some b=>exact look_of_mem h2 (mem_ins.2 (.inr (look_mem e)))
theorem look_upd (n m:Nm) (f:α→α):∀ l:List (Nm × α),look m (upd n f l)=if m=n then (look m l).map f else look m l
 | []=>by simp [look,upd]
 | x :: r=>by
  have ih:=look_upd n m f r
  unfold upd at ih ⊢
  rw [List.map_cons]
  unfold look
  by_cases e:x.1=n
  ·by_cases e2:x.1=m
   ·simp [← e2,e]
   ·rw [if_pos e]
    simp only [if_neg e2,ih]
  ·by_cases e2:x.1=m
   ·rw [if_neg e]
    simp only [if_pos e2]
    rw [if_neg (by rw [← e2];exact e)]
   ·rw [if_neg e]
    simp only [if_neg e2,ih]
theorem length_del {n:Nm} {a:α}:∀ {l:List (Nm × α)},Apart l→look n l=some a→(del n l).length+1=l.length
 | [],_,h=>by cases h
 | x :: r,hp,h=>by
  obtain ⟨h1,h2⟩:=List.pairwise_cons.1 hp
  unfold look at h
  unfold del
  rw [List.filter_cons]
  by_cases e:x.1=n
  ·rw [if_neg (by simp [e])]
   have:r.filter (fun x=>decide (x.1≠n))=r:=List.filter_eq_self.2 (fun y hy=>by simpa using fun e2=>h1 y hy (e.trans e2.symm))
   rw [this];rfl
  ·rw [if_neg e] at h
   rw [if_pos (by simp [e])]
   have:=length_del h2 h
   unfold del at this
   simp only [List.length_cons]
   omega
theorem del_none {n:Nm} {l:List (Nm × α)} (h:look n l=none):del n l=l:=List.filter_eq_self.2 (fun y hy=>by simpa using look_none.1 h y hy)
theorem length_upd (n:Nm) (f:α→α) (l:List (Nm × α)):(upd n f l).length=l.length:=List.length_map _
theorem length_mapv (f:α→β) (l:List (Nm × α)):(mapv f l).length=l.length:=List.length_map _
def total (f:α→Nat) (l:List (Nm × α)):Nat:=(l.map fun x=>f x.2).sum
theorem total_ins (f:α→Nat) (n:Nm) (a:α) (l:List (Nm × α)):total f (ins n a l)=f a+total f l:=by
 unfold total
 rw [((ins_perm n a l).map _).sum_nat]
 rfl
theorem total_le_of {f:α→Nat} {n:Nm} {a:α} {l:List (Nm × α)} (h:(n,a) ∈ l):f a≤total f l:=by
 unfold total
 induction l with
 | nil=>cases h
 | cons x r ih =>
  rw [List.map_cons,List.sum_cons]
  rcases List.mem_cons.1 h with e|h'
  ·subst e;exact Nat.le_add_right _ _
  ·have:=ih h';omega
theorem total_del_le (f:α→Nat) (n:Nm):∀ l:List (Nm × α),total f (del n l)≤total f l
 | []=>Nat.le_refl _
 | x :: r=>by
  have ih:=total_del_le f n r
  unfold total del at ih ⊢
  rw [List.filter_cons]
  split
  ·simp only [List.map_cons,List.sum_cons];omega
  ·simp only [List.map_cons,List.sum_cons];omega
theorem total_del {f:α→Nat} {n:Nm} {a:α}:∀ {l:List (Nm × α)},Apart l→look n l=some a→total f (del n l)+f a=total f l
 | [],_,h=>by cases h
 | x :: r,hp,h=>by
  obtain ⟨h1,h2⟩:=List.pairwise_cons.1 hp
  unfold look at h
  unfold del total
  rw [List.filter_cons]
  by_cases e:x.1=n
  ·rw [if_neg (by simp [e])]
   rw [if_pos e] at h
   injection h with h
   have:r.filter (fun x=>decide (x.1≠n))=r:=List.filter_eq_self.2 (fun y hy=>by simpa using fun e2=>h1 y hy (e.trans e2.symm))
   rw [this,List.map_cons,List.sum_cons,h];omega
  ·rw [if_neg e] at h
   rw [if_pos (by simp [e])]
   have:=total_del (f:=f) h2 h
   unfold del total at this
   simp only [List.map_cons,List.sum_cons]
   omega
theorem total_upd {f:α→Nat} {h:α→α} {n:Nm} {a:α}:∀ {l:List (Nm × α)},Apart l→look n l=some a→total f (upd n h l)+f a=total f l+f (h a)
 | [],_,h=>by cases h
 | x :: r,hp,hl=>by
  obtain ⟨h1,h2⟩:=List.pairwise_cons.1 hp
  unfold look at hl
  unfold upd total
  rw [List.map_cons,List.map_cons,List.map_cons,List.sum_cons,List.sum_cons]
  by_cases e:x.1=n
  ·rw [if_pos e] at hl
   injection hl with hl
   subst hl
   have:r.map (fun x=>if x.1=n then (x.1,h x.2) else x)=r:=by
    conv=>rhs;rw [← List.map_id r]
    refine List.map_congr_left fun y hy=>?_
    rw [if_neg (fun e2=>h1 y hy (e.trans e2.symm))];rfl
   rw [this,if_pos e]
   show f (h x.2)+_+_=_
   omega
  ·rw [if_neg e] at hl
   have:=total_upd (f:=f) (h:=h) h2 hl
   unfold upd total at this
   rw [if_neg e]
   omega
theorem total_mapv (f:β→Nat) (g:α→β) (l:List (Nm × α)):total f (mapv g l)=total (fun a=>f (g a)) l:=by
 unfold total mapv;rw [List.map_map];rfl
theorem total_mono {f g:α→Nat} (h:∀ a,f a≤g a):∀ l:List (Nm × α),total f l≤total g l
 | []=>Nat.le_refl _
 | x :: r=>by
  have ih:=total_mono h r
  unfold total at ih ⊢
  have:=h x.2
  simp only [List.map_cons,List.sum_cons];omega
end
structure File where
 bytes:List Int
 synced:Nat
structure St where
 cap:Int
 files:List (Nm × File)
 effects:Int
 plan:Option (Int × Int)
 down:Bool
def used (S:St):Nat:=total (fun f:File=>f.bytes.length) S.files
def cutTo (keep:Int) (f:File):Nat:=f.synced+(min keep ((f.bytes.length:Int) - f.synced)).toNat
def trunc (keep:Int) (f:File):File:=⟨f.bytes.take (cutTo keep f),cutTo keep f⟩
def crash (keep:Int) (S:St):St:={ S with files:=mapv (trunc keep) S.files,plan:=none,down:=true }
def effect (S:St) (k:St→St):Int × St :=
 match S.plan with
 | none=>(0,k { S with effects:=wrap64 (S.effects+1) })
 | some (l,kp)=>if l=0 then (15,crash kp S) else (0,k { S with effects:=wrap64 (S.effects+1),plan:=some (l - 1,kp) })
def create (S:St) (n:Nm):Int × St :=
 if S.down then (15,S) else if (look n S.files).isSome then (6,S) else if 1000≤S.files.length then (12,S) else effect S fun T=>{ T with files:=ins n ⟨[],0⟩ T.files }
def append (S:St) (n:Nm) (b:List Int):Int × St :=
 if S.down then (15,S) else if (look n S.files).isNone then (5,S) else if S.cap < ((used S+b.length:Nat):Int) then (12,S) else effect S fun T=>{ T with files:=upd n (fun f=>⟨f.bytes++b,f.synced⟩) T.files }
def sync (S:St) (n:Nm):Int × St :=
 if S.down then (15,S) else if (look n S.files).isNone then (5,S) else effect S fun T=>{ T with files:=upd n (fun f=>⟨f.bytes,f.bytes.length⟩) T.files }
def planned (S:St) (l k:Int):St:={ S with plan:=some (max l 0,max k 0) }
def opened (S:St):St:={ S with plan:=none,down:=false }
structure Good (S:St):Prop where
 apart:Apart S.files
 synced:∀ x ∈ S.files,x.2.synced≤x.2.bytes.length∧Bytes x.2.bytes
 plan:∀ l k,S.plan=some (l,k)→0≤l∧l≤9223372036854775807∧0≤k∧k≤9223372036854775807
def stepS (S:St):St:={ S with effects:=wrap64 (S.effects+1),plan:=S.plan.map fun x=>(x.1 - 1,x.2) }
def now (S:St):Option Int:=match S.plan with|some (l,k)=>if l=0 then some k else none|none=>none
theorem effect_done {S:St} (h:now S=none) (k:St→St):effect S k=(0,k (stepS S)):=by
 obtain ⟨c,f,e,pl,d⟩:=S
 rcases pl with _|⟨l,kp⟩
 ·rfl
 ·unfold now at h
  simp only at h
  have hl:l≠0:=by
   intro e0
   rw [if_pos e0] at h
   cases h
  unfold effect
  simp only [if_neg hl]
  rfl
theorem effect_crash {S:St} {kp:Int} (h:now S=some kp) (k:St→St):effect S k=(15,crash kp S):=by
 obtain ⟨c,f,e,pl,d⟩:=S
 rcases pl with _|⟨l,kp'⟩
 ·cases h
 ·unfold now at h
  simp only at h
  split at h
  ·next hl =>
   injection h with h
   subst h
   unfold effect
   simp only [if_pos hl]
  ·cases h
theorem used_crash (kp:Int) (S:St):used (crash kp S)≤used S:=by
 show total _ (mapv (trunc kp) S.files)≤_
 rw [total_mapv]
 exact total_mono (fun a=>by show (a.bytes.take _).length≤a.bytes.length;rw [List.length_take];omega) _
theorem effect_rec {S:St} {k:St→St} {P:Int × St→Prop} (h1:∀ kp,now S=some kp→P (15,crash kp S)) (h2:now S=none→P (0,k (stepS S))):P (effect S k):=by
 rcases hn:now S with _|kp
 ·rw [effect_done hn];exact h2 hn
 ·rw [effect_crash hn];exact h1 kp hn
def delete (S:St) (n:Nm):Int × St :=
 if S.down then (15,S) else if (look n S.files).isNone then (5,S) else effect S fun T=>{ T with files:=del n T.files }
def moved (n m:Nm) (l:List (Nm × File)):List (Nm × File):=match look n l with|some f=>ins m f (del m (del n l))|none=>l
def rename (S:St) (n m:Nm):Int × St :=
 if S.down then (15,S) else if (look n S.files).isNone then (5,S) else effect S fun T=>{ T with files:=moved n m T.files }
section
variable {α:Type}
theorem mem_del {n:Nm} {l:List (Nm × α)} {x:Nm × α}:x ∈ del n l ↔ x ∈ l∧x.1≠n:=by
 unfold del
 rw [List.mem_filter];simp
end
def cut (S:St) (n:Nm) (k:Int):Int × St :=
 if S.down then (15,S) else match look n S.files with
  | none=>(5,S)
  | some f=>if k < 0∨(f.bytes.length:Int) < k then (1,S) else effect S fun T=>{ T with files:=upd n (fun f=>⟨f.bytes.take k.toNat,min f.synced k.toNat⟩) T.files }
theorem cutTo_le {keep:Int} {f:File} (h:f.synced≤f.bytes.length):cutTo keep f≤f.bytes.length:=by unfold cutTo;omega
theorem good_crash {S:St} (h:Good S) (keep:Int):Good (crash keep S):=by
 refine ⟨apart_mapv h.apart _,fun x hx=>?_,fun l k e=>by cases e⟩
 obtain ⟨y,hy,rfl⟩:=List.mem_map.1 hx
 have h1:=h.synced y hy
 have h2:=cutTo_le (keep:=keep) h1.1
 exact ⟨by show cutTo keep y.2≤(y.2.bytes.take _).length;rw [List.length_take];omega,bytes_take h1.2 _⟩
end Go.Proofs.YtbhoknnjilidnaaGreatDoor.Disk
end
section
namespace Go.Proofs.YtbhoknnjilidnaaGreatDoor.Disk
open Go.Proofs.YtbhoknnjilidnaaGreatDoor.Mem Go.RowKit
abbrev Fs:=List (Nm × File)
inductive Eff where
 | new (n:Nm)
 | add (n:Nm) (b:List Int)
 | syn (n:Nm)
 | short (n:Nm) (k:Nat)
 | move (n m:Nm)
 | gone (n:Nm)
def Eff.call:Eff→St→Int × St
 | .new n,S=>create S n
 | .add n b,S=>append S n b
 | .syn n,S=>sync S n
 | .short n k,S=>cut S n (k:Int)
 | .move n m,S=>rename S n m
 | .gone n,S=>delete S n
def Eff.on:Eff→Fs→Fs
 | .new n,l=>ins n ⟨[],0⟩ l
 | .add n b,l=>upd n (fun f=>⟨f.bytes++b,f.synced⟩) l
 | .syn n,l=>upd n (fun f=>⟨f.bytes,f.bytes.length⟩) l
 | .short n k,l=>upd n (fun f=>⟨f.bytes.take k,min f.synced k⟩) l
 | .move n m,l=>moved n m l
 | .gone n,l=>del n l
def tot (l:Fs):Nat:=total (fun f:File=>f.bytes.length) l
def Eff.may (cap:Int):Eff→Fs→Prop
 | .new n,l=>look n l=none∧l.length < 1000
 | .add n b,l=>(look n l).isSome=true∧((tot l+b.length:Nat):Int)≤cap
 | .syn n,l=>(look n l).isSome=true
 | .short n k,l=>∃ f,look n l=some f∧k≤f.bytes.length
 | .move n _,l=>(look n l).isSome=true
 | .gone n,l=>(look n l).isSome=true
theorem isNone_of {α:Type} {o:Option α} (h:o.isSome=true):o.isNone=false:=by cases o <;> simp_all
theorem call_eq (x:Eff) (S:St) (hd:S.down=false) (h:x.may S.cap S.files):x.call S=effect S fun T=>{ T with files:=x.on T.files }:=by
 cases x with
 | new n =>
  obtain ⟨h1,h2⟩:=h
  show create S n=_
  unfold create
  rw [hd,h1,if_neg (by simp),if_neg (by simp),if_neg (by omega)]
  rfl
 | add n b =>
  obtain ⟨h1,h2⟩:=h
  show append S n b=_
  unfold append
  rw [hd,isNone_of h1,if_neg (by simp),if_neg (by simp),if_neg (by unfold used;unfold tot at h2;omega)]
  rfl
 | syn n =>
  show sync S n=_
  unfold sync
  rw [hd,isNone_of h,if_neg (by simp),if_neg (by simp)]
  rfl
 | short n k =>
  obtain ⟨f,h1,h2⟩:=h
  show cut S n k=_
  unfold cut
  rw [hd,if_neg (by simp),h1]
  simp only
  rw [if_neg (by omega)]
  rfl
 | move n m =>
  show rename S n m=_
  unfold rename
  rw [hd,isNone_of h,if_neg (by simp),if_neg (by simp)]
  rfl
 | gone n =>
  show delete S n=_
  unfold delete
  rw [hd,isNone_of h,if_neg (by simp),if_neg (by simp)]
  rfl
def run:List Eff→St→Int × St
 | [],S=>(0,S)
 | x :: r,S=>if (x.call S).1=0 then run r (x.call S).2 else x.call S
def ons (xs:List Eff) (l:Fs):Fs:=xs.foldl (fun l x=>x.on l) l
theorem ons_cons (x:Eff) (r:List Eff) (l:Fs):ons (x :: r) l=ons r (x.on l):=rfl
def Mays (cap:Int):List Eff→Fs→Prop
 | [],_=>True
 | x :: r,l=>x.may cap l∧Mays cap r (x.on l)
theorem run_app (a b:List Eff) (S:St):run (a++b) S=if (run a S).1=0 then run b (run a S).2 else run a S:=by
 induction a generalizing S with
 | nil=>simp [run]
 | cons x r ih =>
  show (if (x.call S).1=0 then run (r++b) (x.call S).2 else x.call S)=_
  by_cases h:(x.call S).1=0
  ·have e:run (x :: r) S=run r (x.call S).2:=if_pos h
   rw [if_pos h,e,ih]
  ·have e:run (x :: r) S=x.call S:=if_neg h
   rw [if_neg h,e,if_neg h]
def PlanOk (pl:Option (Int × Int)):Prop:=∀ l k,pl=some (l,k)→0≤l∧l≤9223372036854775807∧0≤k∧k≤9223372036854775807
theorem planOk_step {S:St} (h:PlanOk S.plan) (hn:now S=none):PlanOk (stepS S).plan:=by
 intro l k e
 unfold stepS at e
 simp only at e
 cases hp:S.plan with
 | none=>rw [hp] at e;cases e
 | some q =>
  obtain ⟨l0,k0⟩:=q
  rw [hp] at e
  simp only [Option.map_some,Option.some.injEq,Prod.mk.injEq] at e
  obtain ⟨h1,h2,h3,h4⟩:=h l0 k0 hp
  unfold now at hn
  rw [hp] at hn
  simp only at hn
  have h5:l0≠0:=by
   intro e0
   rw [if_pos e0] at hn
   cases hn
  omega
theorem keep_ok {S:St} (h:PlanOk S.plan) {kp:Int} (hn:now S=some kp):0≤kp:=by
 unfold now at hn
 cases hp:S.plan with
 | none=>rw [hp] at hn;cases hn
 | some q =>
  obtain ⟨l0,k0⟩:=q
  rw [hp] at hn
  simp only at hn
  split at hn
  ·injection hn with hn
   have:=(h l0 k0 hp).2.2.1
   omega
  ·cases hn
theorem run_ends (xs:List Eff) (S:St) (hd:S.down=false) (hp:PlanOk S.plan) (h:Mays S.cap xs S.files) :
  (∃ e pl,run xs S=(0,⟨S.cap,ons xs S.files,e,pl,false⟩)∧(S.plan=none→pl=none)∧PlanOk pl) ∨
  (S.plan≠none∧∃ j kp e,j < xs.length∧0≤kp∧run xs S=(15,⟨S.cap,mapv (trunc kp) (ons (xs.take j) S.files),e,none,true⟩)):=by
 induction xs generalizing S with
 | nil=>exact .inl ⟨S.effects,S.plan,by obtain ⟨c,f,e,pl,d⟩:=S;simp only at hd;subst hd;rfl,fun h=>h,hp⟩
 | cons x r ih =>
  obtain ⟨h1,h2⟩:=h
  have hc:=call_eq x S hd h1
  cases hn:now S with
  | none =>
   rw [effect_done hn] at hc
   have e1:run (x :: r) S=run r { stepS S with files:=x.on (stepS S).files }:=by
    show (if (x.call S).1=0 then run r (x.call S).2 else x.call S)=_
    rw [hc];rfl
   rw [e1]
   rcases ih { stepS S with files:=x.on (stepS S).files } hd (planOk_step hp hn) h2 with ⟨e,pl,h3,h4,h5⟩|⟨h0,j,kp,e,h3,h4,h5⟩
   ·exact .inl ⟨e,pl,h3,fun hq=>h4 (by show S.plan.map _=none;rw [hq];rfl),h5⟩
   ·refine .inr ⟨fun hq=>h0 (by show S.plan.map _=none;rw [hq];rfl),j+1,kp,e,by simp;omega,h4,h5⟩
  | some kp =>
   rw [effect_crash hn] at hc
   refine .inr ⟨fun hq=>?_,0,kp,S.effects,by simp,keep_ok hp hn,?_⟩
   ·unfold now at hn
    rw [hq] at hn
    cases hn
   ·show (if (x.call S).1=0 then run r (x.call S).2 else x.call S)=_
    rw [hc,if_neg (show ¬ (15:Int)=0 by decide)]
    rfl
theorem look_moved {n m k:Nm} {l:Fs} (ha:Apart l) (h:(look n l).isSome=true):look k (moved n m l)=if k=m then look n l else if k=n then none else look k l:=by
 unfold moved
 cases hl:look n l with
 | none=>rw [hl] at h;cases h
 | some f =>
  simp only
  have a1:=apart_del ha n
  have a2:=apart_del a1 m
  have e0:look m (del m (del n l))=none:=look_del_same
  by_cases hk:k=m
  ·rw [if_pos hk,hk,look_ins_same a2 e0]
  ·rw [if_neg hk,look_ins_other a2 e0 hk,look_del_other hk]
   by_cases hkn:k=n
   ·rw [if_pos hkn,hkn,look_del_same]
   ·rw [if_neg hkn,look_del_other hkn]
theorem apart_moved {n m:Nm} {l:Fs} (ha:Apart l):Apart (moved n m l):=by
 unfold moved
 split
 ·exact apart_ins (apart_del (apart_del ha n) m) look_del_same
 ·exact ha
theorem Eff.apart {cap:Int} {x:Eff} {l:Fs} (h:x.may cap l) (ha:Apart l):Apart (x.on l):=by
 cases x with
 | new n=>exact apart_ins ha h.1
 | add n b=>exact apart_upd ha n (fun f=>⟨f.bytes++b,f.synced⟩)
 | syn n=>exact apart_upd ha n (fun f=>⟨f.bytes,f.bytes.length⟩)
 | short n k=>exact apart_upd ha n (fun f=>⟨f.bytes.take k,min f.synced k⟩)
 | move n m=>exact apart_moved ha
 | gone n=>exact apart_del ha n
def Eff.see:Eff→(Nm→Option File)→Nm→Option File
 | .new n,v=>fun k=>if k=n then some ⟨[],0⟩ else v k
 | .add n b,v=>fun k=>if k=n then (v k).map (fun f=>⟨f.bytes++b,f.synced⟩) else v k
 | .syn n,v=>fun k=>if k=n then (v k).map (fun f=>⟨f.bytes,f.bytes.length⟩) else v k
 | .short n j,v=>fun k=>if k=n then (v k).map (fun f=>⟨f.bytes.take j,min f.synced j⟩) else v k
 | .move n m,v=>fun k=>if k=m then v n else if k=n then none else v k
 | .gone n,v=>fun k=>if k=n then none else v k
theorem look_on {cap:Int} {x:Eff} {l:Fs} (h:x.may cap l) (ha:Apart l):(fun k=>look k (x.on l))=x.see (fun k=>look k l):=by
 funext k
 cases x with
 | new n =>
  show look k (ins n _ l)=if k=n then _ else _
  by_cases hk:k=n
  ·rw [if_pos hk,hk,look_ins_same ha h.1]
  ·rw [if_neg hk,look_ins_other ha h.1 hk]
 | add n b=>exact look_upd n k (fun f=>⟨f.bytes++b,f.synced⟩) l
 | syn n=>exact look_upd n k (fun f=>⟨f.bytes,f.bytes.length⟩) l
 | short n j=>exact look_upd n k (fun f=>⟨f.bytes.take j,min f.synced j⟩) l
 | move n m=>exact look_moved ha h
 | gone n =>
  show look k (del n l)=if k=n then _ else _
  by_cases hk:k=n
  ·rw [if_pos hk,hk,look_del_same]
  ·rw [if_neg hk,look_del_other hk]
def sees (xs:List Eff) (v:Nm→Option File):Nm→Option File:=xs.foldl (fun v x=>x.see v) v
theorem sees_cons (x:Eff) (r:List Eff) (v:Nm→Option File):sees (x :: r) v=sees r (x.see v):=rfl
theorem sees_app (a b:List Eff) (v:Nm→Option File):sees (a++b) v=sees b (sees a v):=List.foldl_append ..
theorem look_ons {cap:Int} {xs:List Eff} {l:Fs} (h:Mays cap xs l) (ha:Apart l):(fun k=>look k (ons xs l))=sees xs (fun k=>look k l)∧Apart (ons xs l):=by
 induction xs generalizing l with
 | nil=>exact ⟨rfl,ha⟩
 | cons x r ih =>
  obtain ⟨h1,h2⟩:=h
  obtain ⟨h3,h4⟩:=ih h2 (Eff.apart h1 ha)
  rw [ons_cons]
  exact ⟨by rw [h3,look_on h1 ha,sees_cons],h4⟩
end Go.Proofs.YtbhoknnjilidnaaGreatDoor.Disk
end
section
namespace Go.Proofs.YtbhoknnjilidnaaGreatDoor.Pack
open Go.Proofs.YtbhoknnjilidnaaGreatDoor.Mem
def put (n:Nat):Nat→List Int
 | 0=>[]
 | k+1=>((n % 256:Nat):Int) :: put (n / 256) k
def num:List Int→Nat
 | []=>0
 | z :: zs=>z.toNat+256 * num zs
theorem put_length (n k:Nat):(put n k).length=k:=by
 induction k generalizing n with
 | zero=>rfl
 | succ k ih=>simp [put,ih]
theorem put_bytes (n k:Nat):Bytes (put n k):=by
 induction k generalizing n with
 | zero=>exact bytes_nil
 | succ k ih =>
  intro z hz
  rcases List.mem_cons.mp hz with rfl|h
  ·omega
  ·exact ih _ z h
theorem num_put (n k:Nat):num (put n k)=n % 256 ^ k:=by
 induction k generalizing n with
 | zero=>simp [put,num,Nat.mod_one]
 | succ k ih =>
  simp only [put,num,ih]
  rw [Nat.pow_succ,Nat.mul_comm (256 ^ k) 256,Nat.mod_mul]
  omega
theorem num_append (xs ys:List Int):num (xs++ys)=num xs+256 ^ xs.length * num ys:=by
 induction xs with
 | nil=>simp [num]
 | cons x xs ih=>rw [List.cons_append,num,num,ih,List.length_cons,Nat.pow_succ,Nat.mul_comm (256 ^ xs.length) 256,Nat.mul_assoc,Nat.mul_add];omega
theorem num_lt {zs:List Int} (h:Bytes zs):num zs < 256 ^ zs.length:=by
 induction zs with
 | nil=>simp [num]
 | cons z zs ih =>
  have h1:=h z (List.mem_cons_self ..)
  have h2:=ih (fun x hx=>h x (List.mem_cons_of_mem _ hx))
  rw [num,List.length_cons,Nat.pow_succ]
  omega
theorem num_snoc (zs:List Int) (k:Nat) (h:k < zs.length):num (zs.take (k+1))=num (zs.take k)+256 ^ k * (zs.getD k 0).toNat:=by
 rw [take_snoc zs k h,num_append]
 simp [num,List.length_take,Nat.min_eq_left (Nat.le_of_lt h)]
theorem pow256_le {k m:Nat} (h:k≤m):256 ^ k≤256 ^ m:=Nat.pow_le_pow_right (by omega) h
def left (zs:List Int) (k:Nat):List Int:=if k≤zs.length then zs.drop k else []
def got (zs:List Int) (k:Nat):List Int:=if k≤zs.length then zs.take k else []
def shortBy (zs:List Int) (k:Nat) (s:Bool):Bool:=if k≤zs.length then s else true
theorem left_bytes {zs:List Int} (h:Bytes zs) (k:Nat):Bytes (left zs k):=by
 unfold left
 split
 ·exact bytes_drop h k
 ·exact bytes_nil
theorem got_bytes {zs:List Int} (h:Bytes zs) (k:Nat):Bytes (got zs k):=by
 unfold got
 split
 ·exact bytes_take h k
 ·exact bytes_nil
theorem left_length_le (zs:List Int) (k:Nat):(left zs k).length≤zs.length:=by
 unfold left
 split
 ·simp
 ·simp
theorem got_length_le (zs:List Int) (k:Nat):(got zs k).length≤k:=by
 unfold got
 split
 ·simp;omega
 ·simp
theorem num_got_lt {zs:List Int} (h:Bytes zs) {k:Nat} (hk:k≤8):num (got zs k) < 18446744073709551616:=by
 have h1:=num_lt (got_bytes h k)
 have h2:256 ^ (got zs k).length≤256 ^ 8:=pow256_le (Nat.le_trans (got_length_le zs k) hk)
 have h3:(256:Nat) ^ 8=18446744073709551616:=by decide
 omega
theorem num_got2_lt {zs:List Int} (h:Bytes zs):num (got zs 2) < 65536:=by
 have h1:=num_lt (got_bytes h 2)
 have h2:256 ^ (got zs 2).length≤256 ^ 2:=pow256_le (got_length_le zs 2)
 have h3:(256:Nat) ^ 2=65536:=by decide
 omega
end Go.Proofs.YtbhoknnjilidnaaGreatDoor.Pack
end
section
namespace Go.Proofs.YtbhoknnjilidnaaGreatDoor.Pack
open Go.Proofs.YtbhoknnjilidnaaGreatDoor.Mem
open Go.ChangeShapes Go.WideShapes Go.ChangeAt Go.RowKit
theorem ret_int {k:IntKind} {a b:Int} (h:a=b):Ending.returned (.int k a) = .returned (.int k b):=by rw [h]
theorem val_int {k:IntKind} {a b:Int} (h:a=b):Value.int k a = .int k b:=by rw [h]
theorem u8_info:(Tryz.prog.info? 5).map (fun i=>(i.zero,i.size,i.bytes))=some (some (.int .u8 0),1,1):=by kernel_rfl
theorem may_yes (k:Int) (h1:1≤k) (h8:k≤8) (w:World) :
  Calls Tryz.prog 97 #[.int .i64 k] w fun e w'=>e = .returned (.bool true)∧w=w':=by
 go_enter Tryz.func97,Tryz.ntmps97
 go_wp2
 go_ret
 exact ⟨rfl,rfl⟩
theorem may_no (k:Int) (h:k < 1∨8 < k) (w:World) :
  Calls Tryz.prog 97 #[.int .i64 k] w fun e w'=>e = .returned (.bool false)∧w=w':=by
 by_cases h1:k < 1
 ·go_enter Tryz.func97,Tryz.ntmps97
  go_wp2
  go_ret
  exact ⟨rfl,rfl⟩
 ·have h8:decide (k≤8)=false:=by simp;omega
  go_enter Tryz.func97,Tryz.ntmps97
  go_wp2
  go_ret
  exact ⟨rfl,rfl⟩
def AtNext (w:World) (v:Value) (base len:Nat) (xs:List Int) (n k:Nat) (a':Act) (w':World):Prop :=
 ∃ (v':Value) (m j:Nat) (ys:List Int) (u7 u8 u9 u10 u11 u12 u13 u14 u15 u16 u17 u18 u19 u20 u21 u22:Value),a'={ tmps := #[v',.int .u64 (m:Int),.int .i64 (j:Int),undef,undef,undef,.slice none 0 0,u7,u8,u9,u10,u11,u12,u13,u14,u15,u16,u17,u18,u19,u20,u21,u22],defers:=[] } ∧
  w'.ownsRow base 5 1 v' (len+(k - j)) (cellsOf ys)∧Onto w w' v v'∧ys++put m j=xs++put n k∧1≤j∧j≤k∧m < 18446744073709551616∧base≤w'.heap.size
theorem next_step {ys zs:List Int} {m j:Nat} (h:ys++put m (j+1)=zs):(ys++[((m % 256:Nat):Int)])++put (m / 256) j=zs:=by
 rw [← h,put,List.append_assoc];rfl
theorem next_last {ys zs:List Int} {m:Nat} (h:ys++put m 1=zs):ys++[((m % 256:Nat):Int)]=zs:=by
 have:=next_step (j:=0) h
 simpa [put] using this
theorem scope_label {P:Program} {a:Act} {w:World} {Q:Exit→Act→World→Prop} {c rest:Code} (l:Nat) (J:Act→World→Prop) (μ:Act→World→Nat) (hf:findLabel c l=some (Code.skip.seq rest))
  (pass:∀ a w,J a w→rest.wp P (Exit.jump l (fun a' w'=>J a' w'∧μ a' w' < μ a w) Q) a w)
  (first:(∀ a w,J a w→rest.wp P (Exit.jump l J Q) a w)→c.wp P (Exit.jump l J Q) a w):(Code.scope c).wp P Q a w:=by
 refine wp_scope_jumps l J μ hf (first fun a w hJ=>Code.wp_mono ?_ (pass a w hJ)) (fun a w hJ=>wp_seq (wp_skip (pass a w hJ)))
 intro e a' w' h
 cases e <;> first|exact h|exact ⟨h.1,h.2.1⟩
theorem put_any (n:Nat) (hn:n < 18446744073709551616) (k:Nat) (h1:1≤k) (h8:k≤8) (v:Value) (len:Nat) (xs:List Int) (base:Nat) (w:World)
  (hown:w.ownsRow base 5 1 v len (cellsOf xs)) (hb:base≤w.heap.size) (hl:len≤1073741824) :
  Calls Tryz.prog 65 #[v,.int .u64 (n:Int),.int .i64 (k:Int)] w fun e w'=>∃ v',e = .returned v'∧w'.ownsRow base 5 1 v' (len+k) (cellsOf (xs++put n k))∧Onto w w' v v':=by
 obtain ⟨i0,hi0,hz0,hz1,hz2⟩:=info_parts u8_info
 go_enter Tryz.func65,Tryz.ntmps65
 go_wp2
 refine scope_label 0 (AtNext w v base len xs n k) (fun a' _=>(intOf (a'.tmps.getD 2 undef)).toNat) rfl ?_ ?_
 ·rintro a' wr ⟨v',m,j,ys,u7,u8,u9,u10,u11,u12,u13,u14,u15,u16,u17,u18,u19,u20,u21,u22,rfl,ho,hon,hys,hj1,hjk,hm,hbr⟩
  have e1:(ys++[((m % 256:Nat):Int)]).length=ys.length+1:=by simp
  have HYS:=Lib.hid hys
  clear hys
  by_cases hj:1 < j
  ·go_wp2_with (at_builtin;refine wpList_append_onto rfl (.tmp 11) (.tmp 14) _ rfl base 5 i0 _ 1 1 Tryz.underlying81 hi0 hz0 hz1 hz2 rfl (by omega) v' (len+(k - j)) (cellsOf ys) rfl (ownsRow_alloc ho _) _ 1 _ rfl (sees_one _ _ _ _) (by simp [Value.oneCell']) (by simp only [maxLen];omega) (by omega) (by simp;omega) ?_;intro v2 w2 ho2 hon2)
   have e2:(m:Int) / 256=((m / 256:Nat):Int):=by omega
   have e3:(j:Int) - 1=((j - 1:Nat):Int):=by omega
   rw [e2,e3]
   go_step3
   refine ⟨rfl,⟨v2,m / 256,j - 1,ys++[((m % 256:Nat):Int)],_,_,_,_,_,_,_,_,_,_,_,_,_,_,_,_,rfl,?_,hon.trans (hon2.of_alloc (fun k hk=>(ho.lt k hk).2)),?_,by omega,by omega,by omega,?_⟩,?_⟩
   ·rw [cellsOf_append]
    have e4:len+(k - (j - 1))=len+(k - j)+1:=by omega
    rw [e4]
    exact ho2
   ·exact next_step (j:=j - 1) (by rw [show j - 1+1=j by omega];exact HYS.out)
   ·have:=hon2.grown.size;simp at this;omega
   ·simp [intOf];omega
  ·have hj0:j=1:=by omega
   subst hj0
   go_wp2_with (at_builtin;refine wpList_append_onto rfl (.tmp 11) (.tmp 14) _ rfl base 5 i0 _ 1 1 Tryz.underlying81 hi0 hz0 hz1 hz2 rfl (by omega) v' (len+(k - 1)) (cellsOf ys) rfl (ownsRow_alloc ho _) _ 1 _ rfl (sees_one _ _ _ _) (by simp [Value.oneCell']) (by simp only [maxLen];omega) (by omega) (by simp;omega) ?_;intro v2 w2 ho2 hon2)
   simp only [Exit.jump]
   go_ret
   refine ⟨v2,rfl,?_,hon.trans (hon2.of_alloc (fun k hk=>(ho.lt k hk).2))⟩
   have e4:len+k=len+(k - 1)+1:=by omega
   have e5:=next_last HYS.out
   rw [e4,← e5,cellsOf_append]
   exact ho2
 ·intro hrest
  go_wp2_with (go_at_call 97;refine (may_yes _ (by omega) (by omega) _).mono ?_;rintro e w' ⟨rfl,rfl⟩)
  go_step3
  rename_i hK
  exact hK _ _ (hrest _ _ ⟨v,n,k,xs,_,_,_,_,_,_,_,_,_,_,_,_,_,_,_,_,rfl,by simpa using hown,Onto.refl _ _,rfl,h1,Nat.le_refl _,hn,hb⟩)
end Go.Proofs.YtbhoknnjilidnaaGreatDoor.Pack
end

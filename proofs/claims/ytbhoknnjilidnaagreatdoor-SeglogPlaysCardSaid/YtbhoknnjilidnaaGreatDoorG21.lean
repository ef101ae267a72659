/- Deeds on a disk: that each effect may be done, and what the disk is behind them, or behind a crash in them. The disk in memory: its block, its map of files, each file's block and bytes; what of it stays while other blocks are written. Contracts of disk's New, Plan, Open, Down, Effects and find. -/
import Derived.Test.YtbhoknnjilidnaaGreatDoorG20
import Derived.Test.YtbhoknnjilidnaaGreatDoorG03
import Derived.Test.YtbhoknnjilidnaaGreatDoorChecked
import Derived.Maps.RangeWalk
import Derived.Sort.KeysCollected
import Derived.Lib.Hide
import Derived.WalkKit
import Derived.Handy
set_option linter.unusedVariables false
set_option maxHeartbeats 1000000
set_option maxRecDepth 100000
section
namespace Go.Proofs.YtbhoknnjilidnaaGreatDoor.Seg
open Go.Proofs.YtbhoknnjilidnaaGreatDoor.Mem
open Go.Proofs.YtbhoknnjilidnaaGreatDoor.Disk (Nm File St Eff Fs Apart sees sees_cons sees_app trunc cutTo ons Mays tot mapv run run_ends PlanOk look_ons)
open Go.Proofs.YtbhoknnjilidnaaGreatDoor.Rec (Rcd Is okBody)
open Go.Proofs.YtbhoknnjilidnaaGreatDoor.Frame (frm)
open Go.Proofs.YtbhoknnjilidnaaGreatDoor.Torn (one frames size frm_size)
def vw (l:Fs):View:=fun n=>Disk.look n l
theorem vw_crash (kp:Int) (l:Fs):vw (mapv (trunc kp) l)=cutAll kp (vw l):=by
 funext n
 exact Disk.look_mapv (trunc kp) n l
theorem mapv_length (f:File→File) (l:Fs):(mapv f l).length=l.length:=Disk.length_mapv f l
theorem tot_crash (kp:Int) (l:Fs):tot (mapv (trunc kp) l)≤tot l:=by
 unfold tot
 rw [Disk.total_mapv]
 exact Disk.total_mono (fun a=>by show (a.bytes.take _).length≤a.bytes.length;rw [List.length_take];omega) _
theorem news_take (xs:List Eff) (j:Nat):news (xs.take j)≤news xs:=by
 conv=>rhs;rw [← List.take_append_drop j xs]
 unfold news
 rw [List.map_append,List.sum_append]
 omega
theorem adds_take (xs:List Eff) (j:Nat):adds (xs.take j)≤adds xs:=by
 conv=>rhs;rw [← List.take_append_drop j xs]
 unfold adds
 rw [List.map_append,List.sum_append]
 omega
theorem maysV_take {xs:List Eff} {v:View} (h:MaysV xs v) (j:Nat):MaysV (xs.take j) v:=by
 induction xs generalizing v j with
 | nil=>simpa using h
 | cons x r ih =>
  rcases j with _|j
  ·exact trivial
  ·exact ⟨h.1,ih h.2 j⟩
structure Up (c:Int) (S:St):Prop where
 cap:S.cap=c
 up:S.down=false
 apart:Apart S.files
 plan:PlanOk S.plan
theorem deed {c:Int} {S:St} {xs:List Eff} (hU:Up c S) (hm:MaysV xs (vw S.files)) (hn:S.files.length+news xs < 1000) (hc:((tot S.files+adds xs:Nat):Int)≤c) {P Q:View→Prop} (hP:P (sees xs (vw S.files))) (hQ:∀ j,j < xs.length→∀ kp,0≤kp→Q (cutAll kp (sees (xs.take j) (vw S.files)))) :
  (∃ T,run xs S=(0,T)∧Up c T∧P (vw T.files)∧(S.plan=none→T.plan=none)∧T.files.length≤S.files.length+news xs∧tot T.files≤tot S.files+adds xs) ∨
  (∃ T,run xs S=(15,T)∧S.plan≠none∧T.down=true∧Up c (Disk.opened T)∧Q (vw T.files)∧T.files.length≤S.files.length+news xs∧tot T.files≤tot S.files+adds xs):=by
 obtain ⟨h1,h2,h3⟩:=mays_of hU.apart hm hn (by rw [← hU.cap] at hc;exact hc)
 rcases run_ends xs S hU.up hU.plan h1 with ⟨e,pl,g1,g2,g3⟩|⟨g0,j,kp,e,g1,g2,g3⟩
 ·obtain ⟨q1,q2⟩:=look_ons h1 hU.apart
  refine .inl ⟨_,g1,⟨hU.cap,rfl,q2,g3⟩,?_,g2,h2,h3⟩
  show P (fun k=>Disk.look k (ons xs S.files))
  rw [q1]
  exact hP
 ·have hmj:=maysV_take hm j
  have hnj:=news_take xs j
  have haj:=adds_take xs j
  obtain ⟨k1,k2,k3⟩:=mays_of (cap:=S.cap) hU.apart hmj (by omega) (by rw [← hU.cap] at hc;omega)
  obtain ⟨q1,q2⟩:=look_ons k1 hU.apart
  refine .inr ⟨_,g3,g0,rfl,⟨hU.cap,rfl,Disk.apart_mapv q2 _,fun l k e=>by cases e⟩,?_,?_,?_⟩
  ·show Q (vw (mapv (trunc kp) (ons (xs.take j) S.files)))
   rw [vw_crash]
   show Q (cutAll kp (fun k=>Disk.look k (ons (xs.take j) S.files)))
   rw [q1]
   exact hQ j g1 kp g2
  ·show (mapv (trunc kp) (ons (xs.take j) S.files)).length≤_
   rw [mapv_length];omega
  ·exact Nat.le_trans (tot_crash kp _) (by omega)
section
variable {v:View} {nums:List Nat} {base:Nat} {begun:Bool} {fr:Nat→List (List Rcd)}
theorem Inv.t (h:Inv v nums base begun fr):v nT=none:=by
 cases e:v nT with
 | none=>rfl
 | some f =>
  rcases h.only nT (by rw [e];rfl) with h1|⟨i,_,h1⟩
  ·exact absurd h1 t_m
  ·exact absurd h1.symm (seg_t i)
theorem Inv.none_ (h:Inv v nums base begun fr) {next:Nat} (hn:∀ i ∈ nums,i≠next):v (seg next)=none:=by
 cases e:v (seg next) with
 | none=>rfl
 | some f =>
  rcases h.only (seg next) (by rw [e];rfl) with h1|⟨i,hi,h1⟩
  ·exact absurd h1 (seg_m next)
  ·exact absurd (seg_inj h1).symm (hn i hi)
theorem ap_mays (h:Inv v nums base begun fr) {i:Nat} (hi:i ∈ nums) (f:List Int):MaysV (apA i f) v:=by
 have h1:=h.segs i hi
 refine ⟨by show (v (seg i)).isSome=true;rw [h1];rfl,?_,trivial⟩
 show ((if seg i=seg i then _ else _:Option File)).isSome=true
 rw [if_pos rfl,h1];rfl
theorem sw_mays (ht:v nT=none) (B:List Int):MaysV (sw B) v:=by
 refine ⟨ht,?_,?_,?_,trivial⟩
 ·simp [mayV,Eff.see]
 ·simp [mayV,Eff.see]
 ·simp [mayV,Eff.see]
theorem rot_mays (h:Inv v nums base begun fr) {next:Nat} (hn:∀ i ∈ nums,i≠next) (B:List Int):MaysV (rotA next B) v:=by
 refine ⟨h.none_ hn,sw_mays ?_ B⟩
 rw [see_other (x := .new (seg next)) (.inl rfl) (seg_t next).symm]
 exact h.t
theorem goneN_mays {ns:List Nm} (hd:ns.Nodup) (h:∀ n ∈ ns,(v n).isSome=true):MaysV (goneN ns) v:=by
 induction ns generalizing v with
 | nil=>trivial
 | cons n r ih =>
  obtain ⟨h1,h2⟩:=List.nodup_cons.1 hd
  refine ⟨h n List.mem_cons_self,ih h2 (fun m hm=>?_)⟩
  have hmn:m≠n:=by
   intro e
   subst e
   exact h1 hm
  rw [see_other (x := .gone n) (.inr (.inr (.inr rfl))) hmn]
  exact h m (List.mem_cons_of_mem _ hm)
theorem goneA_N (ns:List Nat):goneA ns=goneN (ns.map seg):=by
 unfold goneA goneN
 rw [List.map_map];rfl
theorem nodup_seg {ns:List Nat} (h:ns.Pairwise (· < ·)):(ns.map seg).Nodup:=by
 refine List.pairwise_map.2 (h.imp (fun {a b} hab e=>?_))
 have:=seg_inj e
 omega
theorem ad_mays (h:Inv v nums base begun fr) (hN:Nums nums):MaysV (adA nums base) v:=by
 refine maysV_app.2 ⟨sw_mays h.t _,?_⟩
 rw [goneA_N]
 refine goneN_mays (nodup_seg (hN.rising.filter _)) (fun n hn=>?_)
 obtain ⟨i,hi,rfl⟩:=List.mem_map.1 hn
 rw [sw_seg,h.segs i (mem_below.1 hi).1];rfl
end
theorem news_app (a b:List Eff):news (a++b)=news a+news b:=by simp [news]
theorem adds_app (a b:List Eff):adds (a++b)=adds a+adds b:=by simp [adds]
theorem news_ap (i:Nat) (f:List Int):news (apA i f)=0:=rfl
theorem adds_ap (i:Nat) (f:List Int):adds (apA i f)=f.length:=rfl
theorem news_sw (B:List Int):news (sw B)=1:=rfl
theorem adds_sw (B:List Int):adds (sw B)=B.length:=by simp [adds,sw,swA,add1]
theorem news_rot (k:Nat) (B:List Int):news (rotA k B)=2:=rfl
theorem adds_rot (k:Nat) (B:List Int):adds (rotA k B)=B.length:=by simp [adds,rotA,sw,swA,add1]
theorem news_gone (ns:List Nm):news (goneN ns)=0:=by
 induction ns with
 | nil=>rfl
 | cons n r ih =>
  have:news (goneN (n :: r))=0+news (goneN r):=by simp [news,goneN,new1]
  omega
theorem adds_gone (ns:List Nm):adds (goneN ns)=0:=by
 induction ns with
 | nil=>rfl
 | cons n r ih =>
  have:adds (goneN (n :: r))=0+adds (goneN r):=by simp [adds,goneN,add1]
  omega
theorem news_ad (nums:List Nat) (base:Nat):news (adA nums base)=1:=by
 unfold adA
 rw [news_app,news_sw,goneA_N,news_gone]
theorem adds_ad (nums:List Nat) (base:Nat):adds (adA nums base)=(manFile (from_ base nums) 0 false).length:=by
 unfold adA
 rw [adds_app,adds_sw,goneA_N,adds_gone];rfl
theorem flat4 (nums:List Nat):(nums.flatMap (fun i=>Pack.put i 4)).length=4 * nums.length:=by
 induction nums with
 | nil=>rfl
 | cons i r ih=>rw [List.flatMap_cons,List.length_append,Pack.put_length,ih,List.length_cons];omega
theorem man_length (nums:List Nat) (base:Nat) (begun:Bool):(manFile nums base begun).length=15+4 * nums.length:=by
 unfold manFile manBody
 rw [Frame.frm_length]
 simp only [List.length_append,Pack.put_length,flat4,List.length_singleton]
 omega
theorem files_le {l:Fs} (ha:Apart l) {names:List Nm} (h:∀ n,(vw l n).isSome=true→n ∈ names):l.length≤names.length:=by
 induction names generalizing l with
 | nil =>
  rcases l with _|⟨x,r⟩
  ·exact Nat.le_refl _
  ·have:=h x.1 (by show (Disk.look x.1 (x :: r)).isSome=true;unfold Disk.look;rw [if_pos rfl];rfl)
   cases this
 | cons n r ih =>
  have h1:=ih (Disk.apart_del ha n) (fun m hm=>by
   by_cases hmn:m=n
   ·subst hmn
    have:vw (Disk.del m l) m=none:=Disk.look_del_same
    rw [this] at hm;cases hm
   ·have e:vw (Disk.del n l) m=vw l m:=Disk.look_del_other hmn l
    rw [e] at hm
    rcases List.mem_cons.1 (h m hm) with h2|h2
    ·exact absurd h2 hmn
    ·exact h2)
  have h2:l.length≤(Disk.del n l).length+1:=by
   cases e:Disk.look n l with
   | none=>rw [Disk.del_none e];omega
   | some f=>rw [Disk.length_del ha e];exact Nat.le_refl _
  rw [List.length_cons];omega
theorem Inv.files {l:Fs} {nums:List Nat} {base:Nat} {begun:Bool} {fr:Nat→List (List Rcd)} (h:Inv (vw l) nums base begun fr) (ha:Apart l):l.length≤nums.length+1:=by
 have:=files_le ha (names:=nM :: nums.map seg) (fun n hn=>by
  rcases h.only n hn with h1|⟨i,hi,h1⟩
  ·rw [h1];exact List.mem_cons_self
  ·rw [h1];exact List.mem_cons_of_mem _ (List.mem_map_of_mem hi))
 simpa using this
end Go.Proofs.YtbhoknnjilidnaaGreatDoor.Seg
end
section
namespace Go.Proofs.YtbhoknnjilidnaaGreatDoor.Disk
open Go.Proofs.YtbhoknnjilidnaaGreatDoor.Mem
open Go.ChangeShapes Go.WideShapes Go.ChangeAt Go.RowKit
open Go.Maps (Keyed)
def Blk (w:World) (g:Nat) (t:TypeId) (cs:Array Value):Prop:=w.heap[g]?=some (.cells cs t (0,0))
section
variable {w w':World} {g:Nat} {t:TypeId} {cs:Array Value}
theorem Blk.lt (h:Blk w g t cs):g < w.heap.size:=(Array.getElem?_eq_some_iff.1 (show w.heap[g]?=some _ from h)).1
theorem Blk.cell (h:Blk w g t cs) (i:Nat):w.cell? ⟨g,i,none⟩=cs[i]?:=cell_of_row _ _ i _ _ _ h
theorem Blk.frozen (h:Blk w g t cs) (i:Nat):w.frozen? ⟨g,i,none⟩=false:=by
 have e:w.heap[g]?=some (.cells cs t (0,0)):=h
 simp [World.frozen?,e]
theorem Blk.new (w:World) (t:TypeId) (cs:Array Value):Blk (w.alloc (.cells cs t)) w.heap.size t cs:=by
 show (w.alloc _).heap[_]?=_
 exact heap_alloc_new w _
theorem Blk.set_ (h:Blk w g t cs) (i:Nat) (u:Value):Blk (w.setCell ⟨g,i,none⟩ u) g t (cs.setIfInBounds i u):=by
 have e:w.heap[g]?=some (.cells cs t (0,0)):=h
 show (w.setCell _ _).heap[g]?=_
 simp [World.setCell,Array.getElem?_modify,e]
theorem Blk.but {T:Nat→Prop} (h:Blk w g t cs) (hb:But T w w') (hg:¬ T g):Blk w' g t cs:=by
 show w'.heap[g]?=_
 rw [hb.block g h.lt hg];exact h
theorem Blk.ne_ {g':Nat} {t':TypeId} {cs':Array Value} (h:Blk w g t cs) (h':Blk w g' t' cs') (hne:t≠t'):g≠g':=by
 intro e
 have e1:w.heap[g]?=some (.cells cs t (0,0)):=h
 have e2:w.heap[g]?=some (.cells cs' t' (0,0)):=by rw [e];exact h'
 rw [e1] at e2
 simp only [Option.some.injEq,Obj.cells.injEq] at e2
 exact hne e2.2.1
theorem own_blk_ne {base:Nat} {e:TypeId} {size n:Nat} {v:Value} {xs:List Value} (h:w.ownsRow base e size v n xs) (hg:Blk w g t cs) (hne:e≠t):v.ownBlock≠some g:=by
 intro hv
 rcases h.2 with ⟨h1,_⟩|⟨b,cap,cur,h1,_,h3,_⟩
 ·rw [h1] at hv;cases hv
 ·rw [h1] at hv
  have hb:b=g:=by simpa [Value.ownBlock] using hv
  exact (show Blk w b e cur from h3).ne_ hg hne hb
theorem map_blk_ne {H:Type} {P:Program} {k:TypeId} {R:Value→Option (DataW H × List MemPlace)} {b n:Nat} {D:DataW H} (h:w.ownsMap P k R b n D) (hg:Blk w g t cs):b≠g:=by
 rintro rfl
 obtain ⟨es,clock,hb,_⟩:=h
 unfold Blk at hg
 rw [hg] at hb
 cases hb
theorem map_own_ne {H:Type} {P:Program} {k:TypeId} {R:Value→Option (DataW H × List MemPlace)} {b n:Nat} {D:DataW H} {base:Nat} {e:TypeId} {size m:Nat} {v:Value} {xs:List Value} (h:w.ownsMap P k R b n D) (ho:w.ownsRow base e size v m xs):v.ownBlock≠some b:=by
 rcases ho.2 with ⟨rfl,_⟩|⟨g',cap,cur,rfl,_,hh,_⟩
 ·simp [Value.ownBlock]
 ·intro he
  have:g'=b:=by simpa [Value.ownBlock] using he
  subst this
  exact map_blk_ne h (g:=g') hh rfl
end
theorem but_set (w:World) (p i:Nat) (u:Value):But (fun k=>k=p) w (w.setCell ⟨p,i,none⟩ u):=(But.refl (fun k=>k=p) w).setCell (p:=⟨p,i,none⟩) rfl u
theorem ownsMap_but {H:Type} {P:Program} {k:TypeId} {R:Value→Option (DataW H × List MemPlace)} {w w':World} {b n:Nat} {D:DataW H} {T:Nat→Prop} (h:w.ownsMap P k R b n D) (hb:But T w w') (hg:¬ T b):w'.ownsMap P k R b n D:=by
 have hlt:=h.lt
 obtain ⟨es,clock,hh,r⟩:=h
 exact ⟨es,clock,(hb.block b hlt hg).trans hh,r⟩
theorem ownsMap_tight {H:Type} {P:Program} {k:TypeId} {R:Value→Option (DataW H × List MemPlace)} {w:World} {b n:Nat} {D:DataW H} (h:w.ownsMap P k R b n D):w.ownsMap P k R b (Maps.size D) D:=by
 obtain ⟨es,clock,hh,F,hs,rfl⟩:=h
 exact ⟨es,clock,hh,F,by simp [Maps.size,length_sorted],rfl⟩
def ptrElem:Value→Option (DataW Nat × List MemPlace)
 | .pointer (some ⟨b,0,none⟩)=>some (.held b,[])
 | .pointer none=>some (.nil,[])
 | _=>none
def ptrOf:Option Nat→Value
 | some b => .pointer (some ⟨b,0,none⟩)
 | none => .pointer none
theorem ptrElem_inv {v:Value} {z:DataW Nat × List MemPlace} (h:ptrElem v=some z):∃ c,v=ptrOf c∧z=(match c with|some b => .held b|none => .nil,[]):=by
 unfold ptrElem at h
 split at h
 ·next b=>injection h with h;exact ⟨some b,rfl,h.symm⟩
 ·injection h with h;exact ⟨none,rfl,h.symm⟩
 ·cases h
theorem law:Keyed Tryz.prog 9:=Maps.string_keyed Tryz.underlying9
structure Ent where
 fb:Nat
 v:Value
 bytes:List Int
 synced:Nat
def Ent.file (e:Ent):File:=⟨e.bytes,e.synced⟩
def EntAt (w:World) (e:Ent):Prop:=Blk w e.fb 83 #[e.v,.int .i64 e.synced]∧w.ownsRow 0 5 1 e.v e.bytes.length (cellsOf e.bytes)
def Two (x y:Ent):Prop:=x.fb≠y.fb∧∀ k,x.v.ownBlock=some k→y.v.ownBlock≠some k
theorem Two.symm {x y:Ent} (h:Two x y):Two y x:=⟨h.1.symm,fun k hk hx=>h.2 k hx hk⟩
def Sep (es:List (Nm × Ent)):Prop:=es.Pairwise fun x y=>Two x.2 y.2
structure Tells (D:DataW Nat) (es:List (Nm × Ent)):Prop where
 has:∀ x,Maps.has D (.string x)=(look x es).isSome
 key:∀ x e,look x es=some e→∀ z,D.atKey (.string x) z = .held e.fb
 size:Maps.size D=es.length
def PlanAt (w:World) (plan:Option (Int × Int)) (cr:Option Addr):Prop :=
 match plan with
 | none=>cr=none
 | some (l,k)=>∃ b,cr=some ⟨b,0,none⟩∧Blk w b 85 #[.int .i64 l,.int .i64 k]
def foot (p mb:Nat) (cr:Option Addr) (es:List (Nm × Ent)) (k:Nat):Prop :=
 k=p∨k=mb∨(∃ a,cr=some a∧a.block=k)∨∃ x ∈ es,k=x.2.fb∨x.2.v.ownBlock=some k
structure At (w:World) (p:Nat) (S:St) (mb:Nat) (cr:Option Addr) (es:List (Nm × Ent)) (D:DataW Nat):Prop where
 blk:Blk w p 65 #[.map (some mb),.int .i64 S.cap,.int .i64 S.effects,.pointer cr,.bool S.down]
 map:w.ownsMap Tryz.prog 9 ptrElem mb es.length D
 tells:Tells D es
 plan:S.down=false→PlanAt w S.plan cr
 crlt:∀ a,cr=some a→a.block < w.heap.size
 files:mapv Ent.file es=S.files
 ents:∀ x ∈ es,EntAt w x.2
 sep:Sep es
 good:Good S
def Has (w:World) (p:Nat) (S:St) (F:Nat→Prop):Prop :=
 ∃ mb cr es D,At w p S mb cr es D∧(∀ k,foot p mb cr es k→F k)∧∀ k,F k→k < w.heap.size
def grow (F:Nat→Prop) (w w':World) (k:Nat):Prop:=F k∨(w.heap.size≤k∧k < w'.heap.size)
section
variable {w w':World} {p mb:Nat} {S:St} {cr:Option Addr} {es:List (Nm × Ent)} {D:DataW Nat}
theorem At.apart (h:At w p S mb cr es D):Apart es:=apart_of_mapv (h.files.symm ▸ h.good.apart)
theorem At.look (h:At w p S mb cr es D) (n:Nm):look n S.files=(look n es).map Ent.file:=by rw [← h.files,look_mapv]
theorem At.ent (h:At w p S mb cr es D) {x:Nm × Ent} (hx:x ∈ es):x.2.synced≤x.2.bytes.length∧Bytes x.2.bytes:=h.good.synced (x.1,x.2.file) (by rw [← h.files];exact List.mem_map.2 ⟨x,hx,rfl⟩)
theorem EntAt.but {T:Nat→Prop} {e:Ent} (h:EntAt w e) (hb:But T w w') (h1:¬ T e.fb) (h2:∀ k,e.v.ownBlock=some k→¬ T k):EntAt w' e:=⟨h.1.but hb h1,ownsRow_but h.2 hb h2⟩
theorem PlanAt.but {T:Nat→Prop} {pl:Option (Int × Int)} (h:PlanAt w pl cr) (hb:But T w w') (h1:∀ a,cr=some a→¬ T a.block):PlanAt w' pl cr:=by
 rcases pl with _|⟨l,k⟩
 ·exact h
 ·obtain ⟨b,rfl,h2⟩:=h
  exact ⟨b,rfl,h2.but hb (h1 _ rfl)⟩
theorem At.but {T:Nat→Prop} (h:At w p S mb cr es D) (hb:But T w w') (hT:∀ k,foot p mb cr es k→¬ T k):At w' p S mb cr es D where
 blk:=h.blk.but hb (hT p (.inl rfl))
 map:=ownsMap_but h.map hb (hT mb (.inr (.inl rfl)))
 tells:=h.tells
 plan:=fun hd=>(h.plan hd).but hb (fun a ha=>hT _ (.inr (.inr (.inl ⟨a,ha,rfl⟩))))
 crlt:=fun a ha=>Nat.lt_of_lt_of_le (h.crlt a ha) hb.size
 files:=h.files
 ents:=fun x hx=>(h.ents x hx).but hb (hT _ (.inr (.inr (.inr ⟨x,hx,.inl rfl⟩)))) (fun k hk=>hT _ (.inr (.inr (.inr ⟨x,hx,.inr hk⟩))))
 sep:=h.sep
 good:=h.good
theorem At.lt (h:At w p S mb cr es D):∀ k,foot p mb cr es k→k < w.heap.size:=by
 rintro k (rfl|rfl|⟨a,ha,rfl⟩|⟨x,hx,rfl|hk⟩)
 ·exact h.blk.lt
 ·exact h.map.lt
 ·exact h.crlt a ha
 ·exact (h.ents x hx).1.lt
 ·exact ((h.ents x hx).2.lt k hk).2
theorem At.has (h:At w p S mb cr es D):Has w p S (foot p mb cr es):=⟨mb,cr,es,D,h,fun _ hk=>hk,h.lt⟩
theorem Has.but {F T:Nat→Prop} (h:Has w p S F) (hb:But T w w') (hT:∀ k,F k→¬ T k):Has w' p S F:=by
 obtain ⟨mb,cr,es,D,h1,h2,h3⟩:=h
 exact ⟨mb,cr,es,D,h1.but hb (fun k hk=>hT k (h2 k hk)),h2,fun k hk=>Nat.lt_of_lt_of_le (h3 k hk) hb.size⟩
theorem Has.mono {F F':Nat→Prop} (h:Has w p S F) (hF:∀ k,F k→F' k) (hl:∀ k,F' k→k < w.heap.size):Has w p S F':=by
 obtain ⟨mb,cr,es,D,h1,h2,h3⟩:=h
 exact ⟨mb,cr,es,D,h1,fun k hk=>hF k (h2 k hk),hl⟩
theorem Has.grow {F:Nat→Prop} (h:Has w' p S F) {G:Nat→Prop} (hb:But G w w') (hG:∀ k,G k→k < w.heap.size) (hF:∀ k,F k→G k∨w.heap.size≤k):Has w' p S (grow G w w'):=by
 obtain ⟨mb,cr,es,D,h1,h2,h3⟩:=h
 refine ⟨mb,cr,es,D,h1,fun k hk=>?_,fun k hk=>?_⟩
 ·rcases hF k (h2 k hk) with h4|h4
  ·exact .inl h4
  ·exact .inr ⟨h4,h1.lt k hk⟩
 ·rcases hk with h4|h4
  ·exact Nat.lt_of_lt_of_le (hG k h4) hb.size
  ·exact h4.2
theorem At.hasGrow {F:Nat→Prop} (h:At w' p S mb cr es D) (hb:But F w w') (hlt:∀ k,F k→k < w.heap.size) (hF:∀ k,foot p mb cr es k→F k∨w.heap.size≤k):Has w' p S (Disk.grow F w w'):=h.has.grow hb hlt hF
theorem At.other (h:At w p S mb cr es D) {g:Nat} {t:TypeId} {cs:Array Value} (hg:Blk w g t cs) (h1:t≠83) (h2:t≠5) :
  mb≠g∧∀ x ∈ es,x.2.fb≠g∧x.2.v.ownBlock≠some g :=
 ⟨map_blk_ne h.map hg,fun x hx=>⟨(h.ents x hx).1.ne_ hg h1.symm,own_blk_ne (h.ents x hx).2 hg h2.symm⟩⟩
theorem At.disk {S':St} {cr':Option Addr} (h:At w p S mb cr es D) {T:Nat→Prop} (hb:But T w w') (hT:∀ g,T g→∃ t cs,Blk w g t cs∧t≠83∧t≠5) (hfiles:S'.files=S.files)
  (hblk:Blk w' p 65 #[.map (some mb),.int .i64 S'.cap,.int .i64 S'.effects,.pointer cr',.bool S'.down]) (hplan:S'.down=false→PlanAt w' S'.plan cr') (hcr:∀ a,cr'=some a→a.block < w'.heap.size)
  (hgp:∀ l k,S'.plan=some (l,k)→0≤l∧l≤9223372036854775807∧0≤k∧k≤9223372036854775807):At w' p S' mb cr' es D where
 blk:=hblk
 map:=ownsMap_but h.map hb (fun ht=>by obtain ⟨t,cs,h1,h2,h3⟩:=hT _ ht;exact (h.other h1 h2 h3).1 rfl)
 tells:=h.tells
 plan:=hplan
 crlt:=hcr
 files:=h.files.trans hfiles.symm
 ents:=fun x hx=>(h.ents x hx).but hb (fun ht=>by obtain ⟨t,cs,h1,h2,h3⟩:=hT _ ht;exact ((h.other h1 h2 h3).2 x hx).1 rfl) (fun k hk ht=>by obtain ⟨t,cs,h1,h2,h3⟩:=hT _ ht;exact ((h.other h1 h2 h3).2 x hx).2 hk)
 sep:=h.sep
 good:=⟨hfiles ▸ h.good.apart,hfiles ▸ h.good.synced,hgp⟩
theorem At.found (h:At w p S mb cr es D) {s:ByteArray} (hs:s.size≤maxLen) {e:Ent} (hl:Disk.look s.data.toList es=some e) (hz:(zeroValue 80).run Tryz.prog w = .ok (.pointer none) w) :
  (Instr.lookup 62 (.map (some mb)) (.string s) true).run Tryz.prog w = .ok (.tuple #[.pointer (some ⟨e.fb,0,none⟩),.bool true]) w:=by
 obtain ⟨v,ps,hrun,hv⟩:=h.map.look_ok law Tryz.underlying62 hz (zd := .nil) (zp:=[]) rfl (WideMaps.keyOf_string_mk Tryz.underlying9 hs)
 rw [h.tells.key _ _ hl] at hv
 obtain ⟨c,rfl,hc⟩:=ptrElem_inv hv
 rw [h.tells.has,hl] at hrun
 rcases c with _|b
 ·cases hc
 ·simp only [Prod.mk.injEq,DataW.held.injEq] at hc
  rw [hc.1]
  exact hrun
theorem At.missed (h:At w p S mb cr es D) {s:ByteArray} (hs:s.size≤maxLen) (hl:Disk.look s.data.toList es=none) (hz:(zeroValue 80).run Tryz.prog w = .ok (.pointer none) w) :
  (Instr.lookup 62 (.map (some mb)) (.string s) true).run Tryz.prog w = .ok (.tuple #[.pointer none,.bool false]) w:=by
 obtain ⟨v,ps,hrun,hv⟩:=h.map.look_ok law Tryz.underlying62 hz (zd := .nil) (zp:=[]) rfl (WideMaps.keyOf_string_mk Tryz.underlying9 hs)
 have hn:Maps.has D (.string s.data.toList)=false:=by rw [h.tells.has,hl];rfl
 rw [Maps.atKey_of_not_has hn] at hv
 obtain ⟨c,rfl,hc⟩:=ptrElem_inv hv
 rw [hn] at hrun
 rcases c with _|b
 ·exact hrun
 ·cases hc
end
theorem zeroF (w:World):(zeroValue 80).run Tryz.prog w = .ok (.pointer none) w:=by kernel_rfl
end Go.Proofs.YtbhoknnjilidnaaGreatDoor.Disk
end
section
namespace Go.Proofs.YtbhoknnjilidnaaGreatDoor.Disk
open Go.Proofs.YtbhoknnjilidnaaGreatDoor.Mem
open Go.ChangeShapes Go.WideShapes Go.ChangeAt Go.RowKit
def errV (c:Int):Value:=if c=0 then .nilIface else .iface 33 (.int .i64 c)
def fresh (cap:Int):St:=⟨cap,[],0,none,false⟩
theorem good_fresh (cap:Int):Good (fresh cap):=⟨List.Pairwise.nil,(by intro x hx;cases hx),(by intro l k h;cases h)⟩
theorem at_fresh (cap:Int) (w:World):At ((w.alloc (.map #[] 0)).alloc (.cells #[.map (some w.heap.size),.int .i64 cap,.int .i64 0,.pointer none,.bool false] 65)) (w.heap.size+1) (fresh cap) w.heap.size none [] (.map []) where
 blk:=by
  have:=Blk.new (w.alloc (.map #[] 0)) 65 #[.map (some w.heap.size),.int .i64 cap,.int .i64 0,.pointer none,.bool false]
  rw [show (w.alloc (.map #[] 0)).heap.size=w.heap.size+1 by simp] at this
  exact this
 map:=(World.ownsMap_made w _ _ _).alloc _
 tells:=⟨fun x=>rfl,(fun x e h=>by cases h),rfl⟩
 plan:=fun _=>rfl
 crlt:=fun a h=>by cases h
 files:=rfl
 ents:=fun x hx=>by cases hx
 sep:=List.Pairwise.nil
 good:=good_fresh cap
theorem new_any (cap:Int) (w:World) :
  Calls Tryz.prog 5 #[.int .i64 cap] w fun e w'=>∃ p,e = .returned (.pointer (some ⟨p,0,none⟩))∧w.heap.size≤p∧Has w' p (fresh cap) (grow (fun _=>False) w w')∧But (fun _=>False) w w':=by
 have hmm := @run_makeMap Tryz.prog
 go_enter Tryz.func5,Tryz.ntmps5
 go_wp2
 go_ret
 have hb:But (fun _=>False) w ((w.alloc (.map #[] 0)).alloc (.cells #[.map (some w.heap.size),.int .i64 cap,.int .i64 0,.pointer none,.bool false] 65)):=((But.refl _ w).alloc _).alloc _
 refine ⟨w.heap.size+1,rfl,by omega,(at_fresh cap w).hasGrow hb (fun k hk=>hk.elim) ?_,hb⟩
 rintro k (rfl|rfl|⟨a,ha,_⟩|⟨x,hx,_⟩)
 ·exact .inr (by omega)
 ·exact .inr (by omega)
 ·cases ha
 ·cases hx
theorem at_planned {w:World} {p:Nat} {S:St} {mb:Nat} {cr:Option Addr} {es:List (Nm × Ent)} {D:DataW Nat} (h:At w p S mb cr es D) (l k:Int) (hl:0≤l∧l≤9223372036854775807) (hk:0≤k∧k≤9223372036854775807) :
  At ((w.setCell ⟨p,3,none⟩ (.pointer (some ⟨w.heap.size,0,none⟩))).alloc (.cells #[.int .i64 l,.int .i64 k] 85)) p { S with plan:=some (l,k) } mb (some ⟨w.heap.size,0,none⟩) es D:=by
 have hp:=h.blk.lt
 have hb:But (fun k=>k=p) w ((w.setCell ⟨p,3,none⟩ (.pointer (some ⟨w.heap.size,0,none⟩))).alloc (.cells #[.int .i64 l,.int .i64 k] 85)):=(but_set w p 3 _).alloc _
 refine h.disk hb (fun g hg=>⟨_,_,hg ▸ h.blk,by decide,by decide⟩) rfl ?_ ?_ ?_ ?_
 ·exact (h.blk.set_ 3 _).but (T:=fun _=>False) ((But.refl _ _).alloc _) (fun h=>h)
 ·intro _
  refine ⟨_,rfl,?_⟩
  have:=Blk.new (w.setCell ⟨p,3,none⟩ (.pointer (some ⟨w.heap.size,0,none⟩))) 85 #[.int .i64 l,.int .i64 k]
  simpa using this
 ·intro a ha
  injection ha with ha
  subst ha
  simp
 ·intro l' k' e
  injection e with e
  injection e with e1 e2
  subst e1 e2
  exact ⟨hl.1,hl.2,hk.1,hk.2⟩
theorem plan_any (p:Nat) (S:St) (F:Nat→Prop) (l k:Int) (hl:l≤9223372036854775807) (hk:k≤9223372036854775807) (w:World) (h:Has w p S F) :
  Calls Tryz.prog 10 #[.pointer (some ⟨p,0,none⟩),.int .i64 l,.int .i64 k] w fun e w'=>e = .returned (.tuple #[])∧Has w' p (planned S l k) (grow F w w')∧But F w w':=by
 obtain ⟨mb,cr,es,D,hA,hF,hlt⟩:=h
 have hp:=hA.blk.lt
 have c3:w.cell? ⟨p,3,none⟩=some (.pointer cr):=hA.blk.cell 3
 have f3:=hA.blk.frozen 3
 have hfin:∀ l' k',max l 0=l'→max k 0=k'→(Has ((w.setCell ⟨p,3,none⟩ (.pointer (some ⟨w.heap.size,0,none⟩))).alloc (.cells #[.int .i64 l',.int .i64 k'] 85)) p (planned S l k) (grow F w ((w.setCell ⟨p,3,none⟩ (.pointer (some ⟨w.heap.size,0,none⟩))).alloc (.cells #[.int .i64 l',.int .i64 k'] 85))) ∧
   But F w ((w.setCell ⟨p,3,none⟩ (.pointer (some ⟨w.heap.size,0,none⟩))).alloc (.cells #[.int .i64 l',.int .i64 k'] 85))):=by
  intro l' k' el ek
  have hb:But F w ((w.setCell ⟨p,3,none⟩ (.pointer (some ⟨w.heap.size,0,none⟩))).alloc (.cells #[.int .i64 l',.int .i64 k'] 85)):=((but_set w p 3 _).mono (T:=F) (fun i _ e=>e ▸ hF p (.inl rfl))).alloc _
  refine ⟨?_,hb⟩
  have e:planned S l k={ S with plan:=some (l',k') }:=by unfold planned;rw [el,ek]
  rw [e]
  refine (at_planned hA l' k' (by omega) (by omega)).hasGrow hb hlt ?_
  rintro i (rfl|rfl|⟨a,ha,rfl⟩|h4)
  ·exact .inl (hF _ (.inl rfl))
  ·exact .inl (hF _ (.inr (.inl rfl)))
  ·injection ha with ha
   subst ha
   exact .inr (Nat.le_refl _)
  ·exact .inl (hF _ (.inr (.inr (.inr h4))))
 have HF:=Lib.hid hfin
 clear hfin hA hF hlt
 go_enter Tryz.func10,Tryz.ntmps10
 go_wp2
 all_goals (go_end0;refine ⟨rfl,HF.out _ _ ?_ ?_⟩ <;> omega)
theorem open_any (p:Nat) (S:St) (F:Nat→Prop) (w:World) (h:Has w p S F) :
  Calls Tryz.prog 17 #[.pointer (some ⟨p,0,none⟩)] w fun e w'=>e = .returned (.tuple #[])∧Has w' p (opened S) (grow F w w')∧But F w w':=by
 obtain ⟨mb,cr,es,D,hA,hF,hlt⟩:=h
 have c3:w.cell? ⟨p,3,none⟩=some (.pointer cr):=hA.blk.cell 3
 have f3:=hA.blk.frozen 3
 have c4:w.cell? ⟨p,4,none⟩=some (.bool S.down):=hA.blk.cell 4
 have f4:=hA.blk.frozen 4
 go_enter Tryz.func17,Tryz.ntmps17
 go_wp2
 go_end0
 have hb0:But (fun k=>k=p) w ((w.setCell ⟨p,4,none⟩ (.bool false)).setCell ⟨p,3,none⟩ (.pointer none)):=(but_set w p 4 _).trans' (but_set _ p 3 _)
 have hb:=hb0.mono (T:=F) (fun i _ e=>e ▸ hF p (.inl rfl))
 refine ⟨rfl,At.hasGrow (mb:=mb) (cr:=none) (es:=es) (D:=D) (hA.disk hb0 (fun g hg=>⟨_,_,hg ▸ hA.blk,by decide,by decide⟩) rfl ?_ (fun _=>rfl) (fun a h=>by cases h) (fun l k h=>by cases h)) hb hlt ?_,hb⟩
 ·exact (hA.blk.set_ 4 (.bool false)).set_ 3 (.pointer none)
 ·rintro i (h4|h4|⟨a,ha,_⟩|h4)
  ·exact .inl (hF _ (.inl h4))
  ·exact .inl (hF _ (.inr (.inl h4)))
  ·cases ha
  ·exact .inl (hF _ (.inr (.inr (.inr h4))))
section
variable {w:World} {p mb:Nat} {S:St} {cr:Option Addr} {es:List (Nm × Ent)} {D:DataW Nat}
theorem find_down (h:At w p S mb cr es D) (hd:S.down=true) (s:ByteArray) :
  Calls Tryz.prog 69 #[.pointer (some ⟨p,0,none⟩),.string s] w fun e w'=>e = .returned (.tuple #[.pointer none,(.iface 33 (.int .i64 15))])∧w=w':=by
 have c4:w.cell? ⟨p,4,none⟩=some (.bool true):=by rw [← hd];exact h.blk.cell 4
 clear h hd
 go_enter Tryz.func69,Tryz.ntmps69
 go_wp2
 go_ret2
 exact ⟨rfl,rfl⟩
theorem find_none (h:At w p S mb cr es D) (hd:S.down=false) (s:ByteArray) (hs:s.size≤maxLen) (hl:look s.data.toList es=none) :
  Calls Tryz.prog 69 #[.pointer (some ⟨p,0,none⟩),.string s] w fun e w'=>e = .returned (.tuple #[.pointer none,(.iface 33 (.int .i64 5))])∧w=w':=by
 have c4:w.cell? ⟨p,4,none⟩=some (.bool false):=by rw [← hd];exact h.blk.cell 4
 have c0:w.cell? ⟨p,0,none⟩=some (.map (some mb)):=h.blk.cell 0
 have hr:=h.missed hs hl (zeroF w)
 clear h hd hl
 go_enter Tryz.func69,Tryz.ntmps69
 go_wp2
 go_ret2
 exact ⟨rfl,rfl⟩
theorem find_some (h:At w p S mb cr es D) (hd:S.down=false) (s:ByteArray) (hs:s.size≤maxLen) {e:Ent} (hl:look s.data.toList es=some e) :
  Calls Tryz.prog 69 #[.pointer (some ⟨p,0,none⟩),.string s] w fun x w'=>x = .returned (.tuple #[.pointer (some ⟨e.fb,0,none⟩),.nilIface])∧w=w':=by
 have c4:w.cell? ⟨p,4,none⟩=some (.bool false):=by rw [← hd];exact h.blk.cell 4
 have c0:w.cell? ⟨p,0,none⟩=some (.map (some mb)):=h.blk.cell 0
 have hr:=h.found hs hl (zeroF w)
 clear h hd hl
 go_enter Tryz.func69,Tryz.ntmps69
 go_wp2
 go_ret2
 exact ⟨rfl,rfl⟩
end
end Go.Proofs.YtbhoknnjilidnaaGreatDoor.Disk
end

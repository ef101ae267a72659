/- Contract of disk's Used: a range over the map of files, in whatever order. Contract of disk's goDown: what a crash leaves of each file, in whatever order the files are met. Contract of disk's effect: it is counted, or the disk goes down. One file is written, one is made: what the disk in memory is then. -/
import Derived.Test.YtbhoknnjilidnaaGreatDoorG21
import Derived.RegionTactic
import Derived.BigRegion
set_option linter.unusedVariables false
set_option maxHeartbeats 2000000
set_option maxRecDepth 100000
section
namespace Go.Proofs.YtbhoknnjilidnaaGreatDoor.Disk
open Go.Proofs.YtbhoknnjilidnaaGreatDoor.Mem
open Go.ChangeShapes Go.WideShapes Go.ChangeAt Go.RowKit
open Go.Proofs (encStr)
theorem wpList_next_files {w:World} {ops:Array Oper} {rest:List Oper} {o:Oper} {a:Act} {Q:Exit→Act→World→Prop} (hg:o.guard=none) (it:Operand) (hop:o.op=Op.next it false)
  (b r n:Nat) (D:DataW Nat) (left:Lit→Bool) (cnt:Nat) (es:List (Nm × Ent)) (ht:Tells D es) (hit:a.eval it = .pointer (some ⟨r,0,none⟩)) (h:w.ranges Tryz.prog 9 ptrElem b r n D left cnt)
  (hDone:(∀ kl,left kl=false)→wpList Tryz.prog ops Q rest (a.put o.dst (.tuple #[.bool false])) w)
  (hMore:∀ (x:Nm) (e:Ent) (w':World) (cnt':Nat),look x es=some e→left (.string x)=true→w'.ranges Tryz.prog 9 ptrElem b r n D (fun z=>left z && !z.sameKey (.string x)) cnt'→cnt' < cnt →
   w.grownBy w' (some r)→(Instr.entry (.pointer (some ⟨r,0,none⟩))).run Tryz.prog w' = .ok (.tuple #[encStr x,.pointer (some ⟨e.fb,0,none⟩)]) w'→wpList Tryz.prog ops Q rest (a.put o.dst (.tuple #[.bool true,encStr x,.pointer (some ⟨e.fb,0,none⟩)])) w') :
  wpList Tryz.prog ops Q (o :: rest) a w:=by
 refine wpList_next_ranges w hg it hop 9 law ptrElem encStr ptrOf (fun key kl hk=>by obtain ⟨x,hx,_⟩:=Maps.keyOf_str Tryz.underlying9 hk;exact ⟨x,hx⟩) (fun v y hv=>by obtain ⟨c,hc,_⟩:=ptrElem_inv hv;exact ⟨c,hc⟩) b r n D left cnt hit h (fun _ hl=>hDone hl) ?_
 intro x c kl y w' cnt' hkey hlk hv hat hrg hlt hgr hsz hen
 obtain ⟨x',ex,rfl,_⟩:=Maps.keyOf_str Tryz.underlying9 hkey
 obtain rfl:x=x':=encStr_inj ex
 have hh:=Maps.has_true_of_atKey hat
 rw [ht.has] at hh
 obtain ⟨e,he⟩:=Option.isSome_iff_exists.1 hh
 have h1:=hat .nil
 rw [ht.key _ _ he] at h1
 obtain ⟨c',hc1,hc2⟩:=ptrElem_inv hv
 have hc:c=some e.fb:=by
  rcases c with _|b' <;> rcases c' with _|b'' <;> simp [ptrOf] at hc1
  ·rw [hc2] at h1;cases h1
  ·subst hc1
   rw [hc2] at h1
   simp only [DataW.held.injEq] at h1
   rw [h1]
 subst hc
 exact hMore x e w' cnt' he hlk hrg hlt hgr hen
theorem struck_same (left:Lit→Bool) (n:Nm):(left (.string n) && !(Lit.string n).sameKey (.string n))=false:=by simp [Lit.sameKey]
theorem struck_other (left:Lit→Bool) {n x:Nm} (h:x≠n):(left (.string x) && !(Lit.string x).sameKey (.string n))=left (.string x):=by simp [Lit.sameKey,h]
def met (left:Lit→Bool):List (Nm × Ent)→Nat
 | []=>0
 | x :: r=>(if left (.string x.1) then 0 else x.2.bytes.length)+met left r
theorem total_cons {α:Type} (f:α→Nat) (x:Nm × α) (r:List (Nm × α)):total f (x :: r)=f x.2+total f r:=by
 unfold total;rw [List.map_cons,List.sum_cons]
theorem met_none {left:Lit→Bool}:∀ {es:List (Nm × Ent)},(∀ x ∈ es,left (.string x.1)=true)→met left es=0
 | [],_=>rfl
 | x :: r,h=>by
  unfold met
  rw [h x List.mem_cons_self,met_none (fun y hy=>h y (List.mem_cons_of_mem _ hy))];rfl
theorem met_start {D:DataW Nat} {es:List (Nm × Ent)} (ht:Tells D es) (ha:Apart es):met (Maps.has D) es=0 :=
 met_none (fun x hx=>by rw [ht.has,look_of_mem ha hx];rfl)
theorem met_end {left:Lit→Bool} (hl:∀ kl,left kl=false):∀ es:List (Nm × Ent),met left es=total (fun e:Ent=>e.bytes.length) es
 | []=>rfl
 | x :: r=>by
  unfold met
  rw [hl,met_end hl r,total_cons];rfl
theorem met_le (left:Lit→Bool):∀ es:List (Nm × Ent),met left es≤total (fun e:Ent=>e.bytes.length) es
 | []=>Nat.le_refl _
 | x :: r=>by
  have ih:=met_le left r
  unfold met
  rw [total_cons]
  split <;> omega
theorem met_other {left:Lit→Bool} {n:Nm}:∀ {es:List (Nm × Ent)},(∀ x ∈ es,x.1≠n)→met (fun z=>left z && !z.sameKey (.string n)) es=met left es
 | [],_=>rfl
 | x :: r,h=>by
  unfold met
  rw [struck_other left (h x List.mem_cons_self),met_other (fun y hy=>h y (List.mem_cons_of_mem _ hy))]
theorem met_step {left:Lit→Bool} {n:Nm} {e:Ent}:∀ {es:List (Nm × Ent)},Apart es→look n es=some e→left (.string n)=true→met (fun z=>left z && !z.sameKey (.string n)) es=met left es+e.bytes.length
 | [],_,h,_=>by cases h
 | x :: r,hp,h,hl=>by
  obtain ⟨h1,h2⟩:=List.pairwise_cons.1 hp
  unfold look at h
  unfold met
  by_cases e1:x.1=n
  ·rw [if_pos e1] at h
   injection h with h
   rw [met_other (fun y hy e2=>h1 y hy (e1.trans e2.symm)),e1,struck_same,hl,h]
   simp only [if_true,Bool.false_eq_true,if_false];omega
  ·rw [if_neg e1] at h
   rw [met_step h2 h hl,struck_other left e1]
   omega
theorem used_eq {w:World} {p mb:Nat} {S:St} {cr:Option Addr} {es:List (Nm × Ent)} {D:DataW Nat} (h:At w p S mb cr es D):total (fun e:Ent=>e.bytes.length) es=used S:=by
 unfold used
 rw [← h.files,total_mapv];rfl
theorem used_at {w:World} {p mb:Nat} {S:St} {cr:Option Addr} {es:List (Nm × Ent)} {D:DataW Nat} (h:At w p S mb cr es D) (hu:used S≤1000000000) :
  Calls Tryz.prog 9 #[.pointer (some ⟨p,0,none⟩)] w fun e w'=>e = .returned (.int .i64 (used S:Int))∧Below w.heap.size w w':=by
 have c0:w.cell? ⟨p,0,none⟩=some (.map (some mb)):=h.blk.cell 0
 have hap:=h.apart
 have hue:=Lib.hid (used_eq h)
 have hm:=h.map
 have ht:=h.tells
 go_enter Tryz.func9,Tryz.ntmps9
 go_wp2_with (first|(at_range;refine wpList_range_own _ rfl _ 62 rfl 9 80 law Tryz.underlying62 _ mb _ D rfl hm ?_;intro w0 hrg0 hg0 hs0))
 go_frame
 have hs:=met_start ht hap
 clear hs0
 go_loopw [3] (fun n wr=>∃ left cnt,n = .int .i64 ((met left es:Nat):Int)∧wr.ranges Tryz.prog 9 ptrElem mb w.heap.size es.length D left cnt∧w.grownBy wr none) (fun _ wr=>wr.rangeLeft mb w.heap.size)
 case atStart=>exact ⟨_,_,by rw [hs];rfl,hrg0,hg0⟩
 case round =>
  obtain ⟨left,cnt,rfl,hrg,hgw⟩:=hrel
  have hle:=met_le left es
  rw [hue.out] at hle
  go_wp2_with (first|(at_next;refine wpList_next_files rfl _ rfl mb w.heap.size _ D left cnt es ht rfl hrg ?_ ?_))
  ·intro hl0
   have hend:=Lib.hid ((met_end hl0 es).trans hue.out)
   clear hl0
   go_wp2
   go_ret
   exact ⟨by rw [← hend.out];rfl,(But.of_grown hgw).below (Nat.le_refl _) (fun k hk=>by cases hk)⟩
  ·intro x e w2 cnt2 hx hlk hrg2 hlt hg2 hen
   have hE:=h.ents _ (look_mem hx)
   have hst:=Lib.hid (met_step hap hx hlk)
   have hle2:=met_le (fun z=>left z && !z.sameKey (.string x)) es
   rw [hst.out,hue.out] at hle2
   have hgw2:=hgw.andThen hg2 (fun j hj => .inl (by injection hj with hj;omega))
   have hE2:EntAt w2 e:=hE.but (But.of_grown hgw2) (fun hk=>by cases hk) (fun k _ hk=>by cases hk)
   obtain ⟨s1,s2,s3,s4,s5⟩:∃ a cap,e.v = .slice a e.bytes.length cap∧True∧True:=by
    obtain ⟨a,cap,hv,_⟩:=own_shape hE2.2 (h.ent (look_mem hx)).2
    exact ⟨a,cap,hv,trivial,trivial⟩
   have k0:w2.cell? ⟨e.fb,0,none⟩=some (.slice s1 e.bytes.length s2):=by rw [← s3];exact hE2.1.cell 0
   have HR:=Lib.hid hrg2
   have HG:=Lib.hid hgw2
   clear hE hE2 s3 s4 s5 hrg2 hgw2 hg2 hx hlk
   go_wp2
   go_roundw
   case rel=>exact ⟨_,_,by rw [hst.out];go_num,HR.out,HG.out⟩
   case measure=>rw [HR.out.left_eq,hrg.left_eq];omega
end Go.Proofs.YtbhoknnjilidnaaGreatDoor.Disk
end
section
namespace Go.Proofs.YtbhoknnjilidnaaGreatDoor.Disk
open Go.Proofs.YtbhoknnjilidnaaGreatDoor.Mem
open Go.ChangeShapes Go.WideShapes Go.ChangeAt Go.RowKit
open Go.Proofs (encStr)
def cutV (n:Nat):Value→Value
 | .slice a _ c => .slice a n c
 | v=>v
theorem cutV_own (n:Nat) (v:Value):(cutV n v).ownBlock=v.ownBlock:=by
 cases v <;> try rfl
 rename_i a _ _
 cases a <;> rfl
theorem own_cut {w:World} {base len:Nat} {e:TypeId} {v:Value} {xs:List Int} (h:w.ownsRow base e 1 v len (cellsOf xs)) {n:Nat} (hn:n≤len):w.ownsRow base e 1 (cutV n v) n (cellsOf (xs.take n)):=by
 have hl:xs.length=len:=by have:=h.1;rw [cellsOf_length] at this;omega
 refine ⟨by rw [cellsOf_length,List.length_take];omega,?_⟩
 rcases h.2 with ⟨rfl,rfl⟩|⟨g,cap,cur,rfl,hb,hh,h1,h2,h3,h4⟩
 ·have:n=0:=by omega
  subst this
  exact .inl ⟨rfl,rfl⟩
 ·refine .inr ⟨g,cap,cur,rfl,hb,hh,by omega,h2,h3,?_⟩
  rw [cellsOf,List.map_take]
  show _=List.take n (cellsOf xs)
  rw [← h4,List.take_take]
  congr 1
  omega
def truncE (keep:Int) (e:Ent):Ent:=⟨e.fb,cutV (cutTo keep e.file) e.v,e.bytes.take (cutTo keep e.file),cutTo keep e.file⟩
def part (keep:Int) (left:Lit→Bool) (es:List (Nm × Ent)):List (Nm × Ent):=es.map fun x=>if left (.string x.1) then x else (x.1,truncE keep x.2)
theorem part_mem {keep:Int} {left:Lit→Bool} {es:List (Nm × Ent)} {x:Nm × Ent} (h:x ∈ part keep left es):∃ y ∈ es,x.1=y.1∧x.2.fb=y.2.fb∧x.2.v.ownBlock=y.2.v.ownBlock:=by
 obtain ⟨y,hy,rfl⟩:=List.mem_map.1 h
 refine ⟨y,hy,?_⟩
 split
 ·exact ⟨rfl,rfl,rfl⟩
 ·exact ⟨rfl,rfl,cutV_own _ _⟩
theorem part_struck {keep:Int} {left:Lit→Bool} {es:List (Nm × Ent)} {n:Nm} {e:Ent} (ha:Apart es) (hl:look n es=some e) :
  part keep (fun z=>left z && !z.sameKey (.string n)) es=upd n (fun _=>truncE keep e) (part keep left es):=by
 unfold part upd
 rw [List.map_map]
 refine List.map_congr_left fun x hx=>?_
 by_cases e1:x.1=n
 ·have e2:x.2=e:=by
   have:=look_of_mem (n:=n) (a:=x.2) ha (by rw [← e1];exact hx)
   rw [hl] at this
   injection this with this
   exact this.symm
  have e3:(left (.string x.1) && !(Lit.string x.1).sameKey (.string n))=false:=by rw [e1];exact struck_same left n
  simp only [e3,Function.comp,Bool.false_eq_true,if_false]
  split <;> rw [e2]
 ·have e3:=struck_other left e1
  simp only [e3,Function.comp]
  split <;> rfl
theorem part_none {keep:Int} {left:Lit→Bool} {es:List (Nm × Ent)} (h:∀ kl,left kl=false):part keep left es=mapv (truncE keep) es:=by
 unfold part mapv
 refine List.map_congr_left fun x hx=>?_
 rw [h];rfl
theorem part_all {keep:Int} {left:Lit→Bool} {es:List (Nm × Ent)} (h:∀ x ∈ es,left (.string x.1)=true):part keep left es=es:=by
 unfold part
 conv=>rhs;rw [← List.map_id es]
 refine List.map_congr_left fun x hx=>?_
 rw [h x hx];rfl
theorem apart_part {keep:Int} {left:Lit→Bool} {es:List (Nm × Ent)} (h:Apart es):Apart (part keep left es):=by
 refine List.pairwise_map.2 (h.imp fun {x y} hne=>?_)
 split <;> split <;> exact hne
theorem look_part {keep:Int} {left:Lit→Bool} {es:List (Nm × Ent)} {n:Nm} {e:Ent} (ha:Apart es) (hl:look n es=some e) (hk:left (.string n)=true):look n (part keep left es)=some e :=
 look_of_mem (apart_part ha) (List.mem_map.2 ⟨_,look_mem hl,by rw [if_pos hk]⟩)
theorem sep_part {keep:Int} {left:Lit→Bool} {es:List (Nm × Ent)} (h:Sep es):Sep (part keep left es):=by
 refine List.pairwise_map.2 (h.imp fun {x y} hne=>?_)
 have e1:∀ z:Nm × Ent,(if left (.string z.1) then z else (z.1,truncE keep z.2)).2.fb=z.2.fb:=fun z=>by split <;> rfl
 have e2:∀ z:Nm × Ent,(if left (.string z.1) then z else (z.1,truncE keep z.2)).2.v.ownBlock=z.2.v.ownBlock:=fun z=>by
  split
  ·rfl
  ·exact cutV_own _ _
 exact ⟨by rw [e1,e1];exact hne.1,fun k=>by rw [e2,e2];exact hne.2 k⟩
theorem sep_of:∀ {es:List (Nm × Ent)},Sep es→∀ {x y:Nm × Ent},x ∈ es→y ∈ es→x.1≠y.1→Two x.2 y.2
 | [],_,_,_,hx,_,_=>by cases hx
 | a :: r,h,x,y,hx,hy,hne=>by
  obtain ⟨h1,h2⟩:=List.pairwise_cons.1 h
  rcases List.mem_cons.1 hx with ex|hx'
  ·rcases List.mem_cons.1 hy with ey|hy'
   ·rw [ex,ey] at hne;exact (hne rfl).elim
   ·rw [ex];exact h1 y hy'
  ·rcases List.mem_cons.1 hy with ey|hy'
   ·rw [ey];exact (h1 x hx').symm
   ·exact sep_of h2 hx' hy' hne
theorem ents_upd {w w':World} {es:List (Nm × Ent)} {n:Nm} {e e':Ent} {T:Nat→Prop} (hs:Sep es) (hE:∀ x ∈ es,EntAt w x.2) (hl:look n es=some e) (hb:But T w w') (hT:∀ k,k < w.heap.size→T k→k=e.fb∨e.v.ownBlock=some k) (he:EntAt w' e') :
  ∀ x ∈ upd n (fun _=>e') es,EntAt w' x.2:=by
 intro x hx
 obtain ⟨y,hy,rfl⟩:=List.mem_map.1 hx
 by_cases e1:y.1=n
 ·rw [if_pos e1];exact he
 ·rw [if_neg e1]
  have hm:=look_mem hl
  have htwo:=sep_of hs hy hm e1
  have hEy:=hE y hy
  have hEe:=hE _ hm
  refine hEy.but hb (fun ht=>?_) (fun k hk ht=>?_)
  ·rcases hT _ hEy.1.lt ht with h1|h1
   ·exact htwo.1 h1
   ·exact own_blk_ne hEe.2 hEy.1 (by decide) h1
  ·rcases hT k (hEy.2.lt k hk).2 ht with h1|h1
   ·subst h1
    exact own_blk_ne hEy.2 hEe.1 (by decide) hk
   ·exact htwo.2 k hk h1
theorem tells_trunc {D:DataW Nat} {es:List (Nm × Ent)} (h:Tells D es) (keep:Int):Tells D (mapv (truncE keep) es):=by
 refine ⟨fun x=>?_,fun x e hx z=>?_,by rw [length_mapv];exact h.size⟩
 ·rw [h.has,look_mapv,Option.isSome_map]
 ·rw [look_mapv] at hx
  obtain ⟨e0,h0,rfl⟩:=Option.map_eq_some_iff.1 hx
  exact h.key x e0 h0 z
theorem at_crash {w w':World} {p mb:Nat} {S:St} {cr:Option Addr} {es:List (Nm × Ent)} {D:DataW Nat} {keep:Int} (h:At w p S mb cr es D)
  (hblk:Blk w' p 65 #[.map (some mb),.int .i64 S.cap,.int .i64 S.effects,.pointer cr,.bool true]) (hm:w'.ownsMap Tryz.prog 9 ptrElem mb es.length D) (hE:∀ x ∈ mapv (truncE keep) es,EntAt w' x.2) (hsz:w.heap.size≤w'.heap.size) :
  At w' p (crash keep S) mb cr (mapv (truncE keep) es) D where
 blk:=hblk
 map:=by rw [length_mapv];exact hm
 tells:=tells_trunc h.tells keep
 plan:=fun hd=>by cases hd
 crlt:=fun a ha=>Nat.lt_of_lt_of_le (h.crlt a ha) hsz
 files:=by
  show _=mapv (trunc keep) S.files
  rw [← h.files,mapv_mapv,mapv_mapv];rfl
 ents:=hE
 sep:=by
  have:=sep_part (keep:=keep) (left:=fun _=>false) h.sep
  rwa [part_none (fun _=>rfl)] at this
 good:=good_crash h.good keep
theorem cut_ent {w:World} {fb n:Nat} {v:Value} {bytes:List Int} {s0:Nat} (hE:EntAt w ⟨fb,v,bytes,s0⟩) (hn:n≤bytes.length) :
  EntAt ((w.setCell ⟨fb,1,none⟩ (.int .i64 (n:Int))).setCell ⟨fb,0,none⟩ (cutV n v)) ⟨fb,cutV n v,bytes.take n,n⟩:=by
 have hb:But (fun k=>k=fb) w ((w.setCell ⟨fb,1,none⟩ (.int .i64 (n:Int))).setCell ⟨fb,0,none⟩ (cutV n v)):=(but_set _ _ _ _).trans' (but_set _ _ _ _)
 refine ⟨(hE.1.set_ 1 _).set_ 0 _,?_⟩
 have:=own_cut (ownsRow_but hE.2 hb (fun k hk e=>own_blk_ne hE.2 hE.1 (by decide) (e ▸ hk))) hn
 rw [List.length_take,Nat.min_eq_left hn]
 exact this
theorem But.grown {w w':World} {b:Nat} (h:But (fun k=>k=b) w w'):w.grownBy w' (some b):=⟨h.os,h.tape,h.output,h.size,fun k hk hne=>h.block k hk (fun e=>hne (by rw [e]))⟩
def DownRel (w W wr:World) (keep:Int) (es:List (Nm × Ent)) (D:DataW Nat) (mb:Nat) (w3:World):Prop :=
 (∃ left cnt,w3.ranges Tryz.prog 9 ptrElem mb W.heap.size es.length D left cnt∧(∀ x ∈ part keep left es,EntAt w3 x.2)∧But (fun k=>∃ x ∈ es,k=x.2.fb) W w3)∧w3.rangeLeft mb W.heap.size < wr.rangeLeft mb W.heap.size
theorem DownRel.drew {w W wr w3:World} {keep:Int} {es:List (Nm × Ent)} {D:DataW Nat} {mb:Nat} (h:DownRel w W wr keep es D mb w3):DownRel w W wr keep es D mb w3.drew:=by
 obtain ⟨⟨left,cnt,h1,h2,h3⟩,h4⟩:=h
 exact ⟨⟨left,cnt,h1,h2,h3.drew⟩,h4⟩
theorem goDown_at {w:World} {p mb:Nat} {S:St} {cr:Option Addr} {es:List (Nm × Ent)} {D:DataW Nat} (h:At w p S mb cr es D) (keep:Int) (hk0:0≤keep) (hk1:keep≤9223372036854775807) (hu:used S≤1000000000) :
  Calls Tryz.prog 110 #[.pointer (some ⟨p,0,none⟩),.int .i64 keep] w fun e w'=>e = .returned (.tuple #[])∧At w' p (crash keep S) mb cr (mapv (truncE keep) es) D∧But (foot p mb cr es) w w':=by
 have c0:w.cell? ⟨p,0,none⟩=some (.map (some mb)):=h.blk.cell 0
 have c4:w.cell? ⟨p,4,none⟩=some (.bool S.down):=h.blk.cell 4
 have f4:=h.blk.frozen 4
 have hap:=h.apart
 have ht:=h.tells
 have hblt:=h.blk.lt
 obtain ⟨W,hW⟩:∃ W,W=w.setCell ⟨p,4,none⟩ (.bool true):=⟨_,rfl⟩
 have hbW:But (fun k=>k=p) w W:=hW ▸ but_set w p 4 _
 have hsW:W.heap.size=w.heap.size:=by rw [hW];simp
 have hm:W.ownsMap Tryz.prog 9 ptrElem mb es.length D:=ownsMap_but h.map hbW (map_blk_ne h.map h.blk)
 have hBW:Blk W p 65 #[.map (some mb),.int .i64 S.cap,.int .i64 S.effects,.pointer cr,.bool true]:=hW ▸ h.blk.set_ 4 _
 have c0W:W.cell? ⟨p,0,none⟩=some (.map (some mb)):=hBW.cell 0
 have hEW:∀ x ∈ es,EntAt W x.2:=fun x hx=>(h.ents x hx).but hbW (fun e=>(h.ents x hx).1.ne_ h.blk (by decide) e) (fun k hk e=>own_blk_ne (h.ents x hx).2 h.blk (by decide) (e ▸ hk))
 have HW:=Lib.hid hW
 have HS:=Lib.hid hsW
 clear hsW
 go_enter Tryz.func110,Tryz.ntmps110
 go_wp2_with (first|(at_range;rw [← hW];clear hW c0 c4 f4;refine wpList_range_own _ rfl _ 62 rfl 9 80 law Tryz.underlying62 _ mb _ D rfl hm ?_;intro w0 hrg0 hg0 hs0))
 go_frame
 have hstart:part keep (Maps.has D) es=es:=part_all (fun x hx=>by rw [ht.has,look_of_mem hap hx];rfl)
 have HST:=Lib.hid hstart
 clear hs0 hstart
 go_loopw [5] (fun _ wr=>∃ left cnt,wr.ranges Tryz.prog 9 ptrElem mb W.heap.size es.length D left cnt∧(∀ x ∈ part keep left es,EntAt wr x.2)∧But (fun k=>∃ x ∈ es,k=x.2.fb) W wr) (fun _ wr=>wr.rangeLeft mb W.heap.size)
 case atStart =>
  refine ⟨_,_,hrg0,?_,(But.of_grown hg0).mono (fun i _ e=>by cases e)⟩
  rw [HST.out]
  exact fun x hx=>(hEW x hx).but (But.of_grown hg0) (fun e=>by cases e) (fun k _ e=>by cases e)
 case round =>
  obtain ⟨left,cnt,hrg,hE,hbu⟩:=hrel
  go_wp2_with (first|(at_next;refine wpList_next_files rfl _ rfl mb W.heap.size _ D left cnt es ht rfl hrg ?_ ?_))
  ·intro hl0
   have hpn:=part_none (keep:=keep) (es:=es) hl0
   rw [hpn] at hE
   clear hl0 hpn
   go_wp2
   go_end0
   refine ⟨rfl,at_crash h (hBW.but hbu ?_) hrg.owns hE (by rw [← HS.out];exact hbu.size),?_⟩
   ·rintro ⟨x,hx,e⟩
    exact (hEW x hx).1.ne_ hBW (by decide) e.symm
   ·refine (hbW.mono (T:=foot p mb cr es) (fun i _ e => .inl e)).trans hbu (fun i _ e=>?_)
    obtain ⟨x,hx,e⟩:=e
    exact .inr (.inr (.inr ⟨x,hx,.inl e⟩))
  ·intro x e w2 cnt2 hx hlk hrg2 hlt hg2 hen
   have hlp:=look_part (keep:=keep) hap hx hlk
   have hgo:=h.ent (look_mem hx)
   have hlen:e.bytes.length≤1000000000:=by
    have:=total_le_of (f:=fun e:Ent=>e.bytes.length) (look_mem hx)
    rw [used_eq h] at this
    exact Nat.le_trans this hu
   have hlow:∀ y ∈ part keep left es,y.2.fb < W.heap.size∧∀ k,y.2.v.ownBlock=some k→k < W.heap.size:=by
    intro y hy
    obtain ⟨z,hz,_,h2,h3⟩:=part_mem hy
    exact ⟨by rw [h2];exact (hEW z hz).1.lt,fun k hk=>((hEW z hz).2.lt k (h3 ▸ hk)).2⟩
   have hE2:∀ y ∈ part keep left es,EntAt w2 y.2:=fun y hy=>(hE y hy).but (But.of_grown hg2) (fun e=>by injection e with e;have:=(hlow y hy).1;omega) (fun k hk e=>by injection e with e;have:=(hlow y hy).2 k hk;omega)
   have hb2:But (fun k=>∃ x ∈ es,k=x.2.fb) W w2:=hbu.trans (But.of_grown hg2) (fun i hi e=>by injection e with e;omega)
   have hEe:=hE2 _ (look_mem hlp)
   obtain ⟨fb,v,bytes,s0⟩:=e
   obtain ⟨a,cap,hv,_,_,hsh⟩:=own_shape hEe.2 hgo.2
   simp only at hv
   subst hv
   have k0:w2.cell? ⟨fb,0,none⟩=some (.slice a bytes.length cap):=hEe.1.cell 0
   have k1:w2.cell? ⟨fb,1,none⟩=some (.int .i64 s0):=hEe.1.cell 1
   have g0:=hEe.1.frozen 0
   have g1:=hEe.1.frozen 1
   simp only at g0 g1 hlen
   have hs0:s0≤bytes.length:=hgo.1
   have hfin:∀ (N:Int) (m:Nat),N=(cutTo keep ⟨bytes,s0⟩:Nat)→m=cutTo keep ⟨bytes,s0⟩→DownRel w W wr keep es D mb ((w2.setCell ⟨fb,1,none⟩ (.int .i64 N)).setCell ⟨fb,0,none⟩ (.slice a m cap)).drew.drew:=by
    intro N m hN hm'
    subst hN hm'
    have hc:But (fun k=>k=fb) w2 ((w2.setCell ⟨fb,1,none⟩ (.int .i64 ((cutTo keep ⟨bytes,s0⟩:Nat):Int))).setCell ⟨fb,0,none⟩ (.slice a (cutTo keep ⟨bytes,s0⟩) cap)):=(but_set _ _ _ _).trans' (but_set _ _ _ _)
    have hce:=cut_ent (n:=cutTo keep ⟨bytes,s0⟩) hEe (cutTo_le (f:=⟨bytes,s0⟩) hs0)
    refine DownRel.drew (DownRel.drew ?_)
    show DownRel w W wr keep es D mb ((w2.setCell ⟨fb,1,none⟩ (.int .i64 ((cutTo keep ⟨bytes,s0⟩:Nat):Int))).setCell ⟨fb,0,none⟩ (.slice a (cutTo keep ⟨bytes,s0⟩) cap))
    refine ⟨⟨_,cnt2,World.ranges.kept hrg2 (But.grown hc) ?_ ?_,?_,hb2.trans hc (fun i hi e=>⟨_,look_mem hx,e⟩)⟩,?_⟩
    ·intro e
     injection e with e
     exact map_blk_ne hrg2.owns hEe.1 e
    ·intro e
     injection e with e
     have:=(hlow _ (look_mem hlp)).1
     simp only at this
     omega
    ·rw [part_struck hap hx]
     exact ents_upd (sep_part h.sep) hE2 hlp hc (fun k _ e => .inl e) hce
    ·rw [(World.ranges.kept hrg2 (But.grown hc) ?_ ?_).left_eq,hrg.left_eq]
     ·exact hlt
     ·intro e
      injection e with e
      exact map_blk_ne hrg2.owns hEe.1 e
     ·intro e
      injection e with e
      have:=(hlow _ (look_mem hlp)).1
      simp only at this
      omega
   have HF:=Lib.hid hfin
   clear hfin hE2 hrg2 hb2 hEe hE hbu hg2 hlow hx hlp hrg0 hg0 hEW hBW hm c0W hbW hgo hlk
   rcases hsh with ⟨rfl,rfl,hn0⟩|⟨g,rfl,_,hglt,hlc,hcm⟩
   ·have hbn:bytes=[]:=List.eq_nil_of_length_eq_zero hn0
    subst hbn
    have hs00:s0=0:=by simpa using hs0
    subst hs00
    by_cases hk:0 < keep
    ·skip
     go_wp2
     go_region
     go_wp2
     go_region
     go_roundw
     case rel =>
      repeat apply Exists.intro
      refine ⟨(HF.out _ _ ?_ ?_).1,rfl⟩ <;> (unfold cutTo;dsimp only [List.length_nil];omega)
     case measure=>refine (HF.out _ _ ?_ ?_).2 <;> (unfold cutTo;dsimp only [List.length_nil];omega)
    ·have hk00:keep=0:=by omega
     subst hk00
     go_wp2
     go_region
     go_wp2
     go_region
     go_roundw
     case rel =>
      repeat apply Exists.intro
      refine ⟨(HF.out _ _ ?_ ?_).1,rfl⟩ <;> (unfold cutTo;dsimp only [List.length_nil];omega)
     case measure=>refine (HF.out _ _ ?_ ?_).2 <;> (unfold cutTo;dsimp only [List.length_nil];omega)
   ·have hcm':cap≤9223372036854775807:=by simpa [maxLen] using hcm
    by_cases hk:(bytes.length:Int) - s0 < keep
    ·have hq:(s0:Int)+((bytes.length:Int) - s0)=(bytes.length:Int):=by omega
     go_wp2
     go_region
     go_wp2
     go_region
     go_roundw
     case rel =>
      repeat apply Exists.intro
      refine ⟨(HF.out _ _ ?_ ?_).1,rfl⟩ <;> (unfold cutTo;dsimp only [List.length_nil];omega)
     case measure=>refine (HF.out _ _ ?_ ?_).2 <;> (unfold cutTo;dsimp only [List.length_nil];omega)
    ·skip
     go_wp2
     go_region
     go_wp2
     go_region
     go_roundw
     case rel =>
      repeat apply Exists.intro
      refine ⟨(HF.out _ _ ?_ ?_).1,rfl⟩ <;> (unfold cutTo;dsimp only [List.length_nil];omega)
     case measure=>refine (HF.out _ _ ?_ ?_).2 <;> (unfold cutTo;dsimp only [List.length_nil];omega)
end Go.Proofs.YtbhoknnjilidnaaGreatDoor.Disk
end
section
namespace Go.Proofs.YtbhoknnjilidnaaGreatDoor.Disk
open Go.Proofs.YtbhoknnjilidnaaGreatDoor.Mem
open Go.ChangeShapes Go.WideShapes Go.ChangeAt Go.RowKit
section
variable {w:World} {p mb:Nat} {S:St} {cr:Option Addr} {es:List (Nm × Ent)} {D:DataW Nat}
theorem effect_yes (h:At w p S mb cr es D) (hd:S.down=false) (hn:now S=none) :
  Calls Tryz.prog 91 #[.pointer (some ⟨p,0,none⟩)] w fun e w'=>e = .returned .nilIface∧At w' p (stepS S) mb cr es D∧But (fun k=>k=p∨∃ a,cr=some a∧a.block=k) w w':=by
 have c2:w.cell? ⟨p,2,none⟩=some (.int .i64 S.effects):=h.blk.cell 2
 have f2:=h.blk.frozen 2
 have c3:w.cell? ⟨p,3,none⟩=some (.pointer cr):=h.blk.cell 3
 have hpl:=h.plan hd
 rcases hS:S.plan with _|⟨l,kp⟩
 ·rw [hS] at hpl
  have hcr:cr=none:=hpl
  subst hcr
  have hb0:But (fun k=>k=p) w (w.setCell ⟨p,2,none⟩ (.int .i64 (wrap64 (S.effects+1)))):=but_set w p 2 _
  have hfin:At (w.setCell ⟨p,2,none⟩ (.int .i64 (wrap64 (S.effects+1)))) p (stepS S) mb none es D:=by
   refine h.disk hb0 (fun g hg=>⟨_,_,hg ▸ h.blk,by decide,by decide⟩) rfl (h.blk.set_ 2 _) (fun _=>?_) (fun a h=>by cases h) (fun l k e=>?_)
   ·show PlanAt _ (S.plan.map _) none
    rw [hS];rfl
   ·have e':S.plan.map (fun x:Int × Int=>(x.1 - 1,x.2))=some (l,k):=e
    rw [hS] at e';cases e'
  have HF:=Lib.hid hfin
  clear hfin hS hpl h
  go_enter Tryz.func91,Tryz.ntmps91
  go_wp2
  go_ret
  exact ⟨rfl,HF.out,hb0.mono (fun i _ e => .inl e)⟩
 ·rw [hS] at hpl
  obtain ⟨b,rfl,hB⟩:=hpl
  have hg:=h.good.plan l kp hS
  have hl:l≠0:=by
   intro e0
   unfold now at hn
   rw [hS] at hn
   simp only [if_pos e0] at hn
   cases hn
  have k0:w.cell? ⟨b,0,none⟩=some (.int .i64 l):=hB.cell 0
  have g0:=hB.frozen 0
  have hbp:b≠p:=hB.ne_ h.blk (by decide)
  have hl0:(l == 0)=false:=by simpa using hl
  have hl1:1≤l:=by omega
  have hfin:At ((w.setCell ⟨b,0,none⟩ (.int .i64 (l - 1))).setCell ⟨p,2,none⟩ (.int .i64 (wrap64 (S.effects+1)))) p (stepS S) mb (some ⟨b,0,none⟩) es D ∧
    But (fun k=>k=p∨∃ a,some (⟨b,0,none⟩:Addr)=some a∧a.block=k) w ((w.setCell ⟨b,0,none⟩ (.int .i64 (l - 1))).setCell ⟨p,2,none⟩ (.int .i64 (wrap64 (S.effects+1)))):=by
   have hb1:But (fun k=>k=b∨k=p) w ((w.setCell ⟨b,0,none⟩ (.int .i64 (l - 1))).setCell ⟨p,2,none⟩ (.int .i64 (wrap64 (S.effects+1)))) :=
    ((but_set w b 0 _).mono (fun i _ e => .inl e)).trans (but_set _ p 2 _) (fun i _ e => .inr e)
   refine ⟨h.disk hb1 (fun g hg=>?_) rfl ?_ (fun _=>?_) (fun a e=>?_) (fun l' k' e=>?_),hb1.mono (fun i _ e=>?_)⟩
   ·rcases hg with rfl|rfl
    ·exact ⟨_,_,hB,by decide,by decide⟩
    ·exact ⟨_,_,h.blk,by decide,by decide⟩
   ·exact (h.blk.but (but_set w b 0 _) (fun e=>hbp e.symm)).set_ 2 _
   ·show PlanAt _ (S.plan.map _) _
    rw [hS]
    exact ⟨b,rfl,(hB.set_ 0 _).but (but_set _ p 2 _) hbp⟩
   ·injection e with e
    subst e
    simpa using hB.lt
   ·have e':S.plan.map (fun x:Int × Int=>(x.1 - 1,x.2))=some (l',k'):=e
    rw [hS] at e'
    injection e' with e'
    injection e' with e1 e2
    simp only at e1 e2
    omega
   ·rcases e with rfl|rfl
    ·exact .inr ⟨_,rfl,rfl⟩
    ·exact .inl rfl
  have HF:=Lib.hid hfin
  clear hfin hS h hB hn hl
  go_enter Tryz.func91,Tryz.ntmps91
  go_wp2
  go_ret
  exact ⟨rfl,HF.out⟩
theorem effect_no (h:At w p S mb cr es D) (hd:S.down=false) {kp:Int} (hn:now S=some kp) (hu:used S≤1000000000) :
  Calls Tryz.prog 91 #[.pointer (some ⟨p,0,none⟩)] w fun e w'=>e = .returned (.iface 33 (.int .i64 15))∧At w' p (crash kp S) mb cr (mapv (truncE kp) es) D∧But (foot p mb cr es) w w':=by
 have c3:w.cell? ⟨p,3,none⟩=some (.pointer cr):=h.blk.cell 3
 have hpl:=h.plan hd
 rcases hS:S.plan with _|⟨l,kp'⟩
 ·unfold now at hn
  rw [hS] at hn
  cases hn
 ·rw [hS] at hpl
  obtain ⟨b,rfl,hB⟩:=hpl
  have hg:=h.good.plan l kp' hS
  unfold now at hn
  rw [hS] at hn
  simp only at hn
  split at hn
  ·next hl =>
   subst hl
   injection hn with hn
   subst hn
   have k0:w.cell? ⟨b,0,none⟩=some (.int .i64 0):=hB.cell 0
   have k1:w.cell? ⟨b,1,none⟩=some (.int .i64 kp'):=hB.cell 1
   have hgo:=goDown_at h kp' hg.2.2.1 hg.2.2.2 hu
   have HG:=Lib.hid hgo
   clear hgo hS h hB hg
   go_enter Tryz.func91,Tryz.ntmps91
   go_wp2_with fail
   refine (HG.out).mono ?_
   rintro e w' ⟨rfl,hA,hB⟩
   have HA:=Lib.hid hA
   have HB:=Lib.hid hB
   clear hA hB HG
   go_wp2
   go_ret
   exact ⟨rfl,HA.out,HB.out⟩
  ·cases hn
end
end Go.Proofs.YtbhoknnjilidnaaGreatDoor.Disk
end
section
namespace Go.Proofs.YtbhoknnjilidnaaGreatDoor.Disk
open Go.Proofs.YtbhoknnjilidnaaGreatDoor.Mem
open Go.ChangeShapes Go.WideShapes Go.ChangeAt Go.RowKit
theorem upd_const {α:Type} {l:List (Nm × α)} {n:Nm} {a:α} {h:α→α} (ha:Apart l) (hl:look n l=some a):upd n h l=upd n (fun _=>h a) l:=by
 unfold upd
 refine List.map_congr_left fun x hx=>?_
 by_cases e:x.1=n
 ·have:look n l=some x.2:=look_of_mem ha (by rw [← e];exact hx)
  rw [hl] at this
  injection this with this
  rw [if_pos e,if_pos e,this]
 ·rw [if_neg e,if_neg e]
section
variable {w w':World} {p mb:Nat} {S:St} {cr:Option Addr} {es:List (Nm × Ent)} {D:DataW Nat} {n:Nm} {e e':Ent}
theorem sep_upd (ha:Apart es) (hs:Sep es) (hE:∀ x ∈ es,EntAt w x.2) (hl:look n es=some e) (hfb:e'.fb=e.fb) (hv:∀ k,e'.v.ownBlock=some k→e.v.ownBlock=some k∨w.heap.size≤k):Sep (upd n (fun _=>e') es):=by
 refine List.pairwise_map.2 ((List.Pairwise.and ha hs).imp_of_mem fun {x y} hx hy hxy=>?_)
 obtain ⟨hne,htwo⟩:=hxy
 have hx2:x.1=n→x.2=e:=fun h=>by
  have:=look_of_mem (n:=n) (a:=x.2) ha (by rw [← h];exact hx)
  rw [hl] at this;injection this with this;exact this.symm
 have hy2:y.1=n→y.2=e:=fun h=>by
  have:=look_of_mem (n:=n) (a:=y.2) ha (by rw [← h];exact hy)
  rw [hl] at this;injection this with this;exact this.symm
 by_cases h1:x.1=n
 ·have h2:y.1≠n:=fun h=>hne (h1.trans h.symm)
  rw [if_pos h1,if_neg h2]
  have hx3:=hx2 h1
  rw [hx3] at htwo
  refine ⟨by rw [hfb];exact htwo.1,fun k hk=>?_⟩
  rcases hv k hk with h3|h3
  ·exact htwo.2 k h3
  ·intro hk2
   have:=((hE y hy).2.lt k hk2).2
   omega
 ·rw [if_neg h1]
  by_cases h2:y.1=n
  ·rw [if_pos h2]
   have hy3:=hy2 h2
   rw [hy3] at htwo
   refine ⟨by rw [hfb];exact htwo.1,fun k hk hk2=>?_⟩
   rcases hv k hk2 with h3|h3
   ·exact htwo.2 k hk h3
   ·have:=((hE x hx).2.lt k hk).2
    omega
  ·rw [if_neg h2]
   exact htwo
theorem tells_upd (h:Tells D es) (hl:look n es=some e) (hfb:e'.fb=e.fb):Tells D (upd n (fun _=>e') es):=by
 refine ⟨fun x=>?_,fun x e2 hx z=>?_,by rw [length_upd];exact h.size⟩
 ·rw [h.has,look_upd]
  split
  ·rw [Option.isSome_map]
  ·rfl
 ·rw [look_upd] at hx
  split at hx
  ·next ex =>
   subst ex
   rw [hl] at hx
   injection hx with hx
   subst hx
   rw [hfb]
   exact h.key _ _ hl z
  ·exact h.key _ _ hx z
theorem At.upd_ {T:Nat→Prop} (h:At w p S mb cr es D) (hl:Disk.look n es=some e) (hb:But T w w') (hT:∀ k,k < w.heap.size→T k→k=e.fb∨e.v.ownBlock=some k) (he:EntAt w' e') (hfb:e'.fb=e.fb)
  (hv:∀ k,e'.v.ownBlock=some k→e.v.ownBlock=some k∨w.heap.size≤k) (hsy:e'.synced≤e'.bytes.length) (hby:Bytes e'.bytes):At w' p { S with files:=Disk.upd n (fun _=>e'.file) S.files } mb cr (Disk.upd n (fun _=>e') es) D:=by
 have hE:=h.ents _ (look_mem hl)
 have hno:∀ {g:Nat} {t:TypeId} {cs:Array Value},Blk w g t cs→t≠83→t≠5→¬ T g:=fun {g t cs} hg h1 h2 ht=>by
  rcases hT _ hg.lt ht with h3|h3
  ·exact hg.ne_ hE.1 h1 h3
  ·exact own_blk_ne hE.2 hg h2.symm h3
 refine ⟨h.blk.but hb (hno h.blk (by decide) (by decide)),?_,tells_upd h.tells hl hfb,fun hd=>(h.plan hd).but hb ?_,fun a ha=>Nat.lt_of_lt_of_le (h.crlt a ha) hb.size,?_,ents_upd h.sep h.ents hl hb hT he,sep_upd h.apart h.sep h.ents hl hfb hv,?_⟩
 ·rw [length_upd]
  refine ownsMap_but h.map hb (fun ht=>?_)
  rcases hT _ h.map.lt ht with h3|h3
  ·exact map_blk_ne h.map hE.1 h3
  ·exact map_own_ne h.map hE.2 h3
 ·intro a ha
  have hpl:=h.plan hd
  rcases hS:S.plan with _|⟨l,k⟩
  ·rw [hS] at hpl
   have:cr=none:=hpl
   rw [this] at ha;cases ha
  ·rw [hS] at hpl
   obtain ⟨b,hb2,hB⟩:=hpl
   rw [hb2] at ha
   injection ha with ha
   subst ha
   exact hno hB (by decide) (by decide)
 ·show mapv Ent.file (Disk.upd n (fun _=>e') es)=Disk.upd n (fun _=>e'.file) S.files
  rw [← h.files]
  exact mapv_upd (fun a _=>rfl)
 ·refine ⟨apart_upd h.good.apart n (fun _=>e'.file),fun x hx=>?_,h.good.plan⟩
  obtain ⟨y,hy,rfl⟩:=List.mem_map.1 hx
  split
  ·exact ⟨hsy,hby⟩
  ·exact h.good.synced y hy
theorem foot_upd (hl:look n es=some e) (hfb:e'.fb=e.fb) (hv:∀ k,e'.v.ownBlock=some k→e.v.ownBlock=some k∨w.heap.size≤k):∀ k,foot p mb cr (upd n (fun _=>e') es) k→foot p mb cr es k∨w.heap.size≤k:=by
 rintro k (h1|h1|h1|⟨x,hx,h1⟩)
 ·exact .inl (.inl h1)
 ·exact .inl (.inr (.inl h1))
 ·exact .inl (.inr (.inr (.inl h1)))
 ·obtain ⟨y,hy,rfl⟩:=List.mem_map.1 hx
  by_cases e1:y.1=n
  ·rw [if_pos e1] at h1
   rcases h1 with h1|h1
   ·exact .inl (.inr (.inr (.inr ⟨_,look_mem hl,.inl (h1.trans hfb)⟩)))
   ·rcases hv k h1 with h2|h2
    ·exact .inl (.inr (.inr (.inr ⟨_,look_mem hl,.inr h2⟩)))
    ·exact .inr h2
  ·rw [if_neg e1] at h1
   exact .inl (.inr (.inr (.inr ⟨y,hy,h1⟩)))
theorem foot_trunc {keep:Int}:∀ k,foot p mb cr (mapv (truncE keep) es) k→foot p mb cr es k:=by
 rintro k (h1|h1|h1|⟨x,hx,h1⟩)
 ·exact .inl h1
 ·exact .inr (.inl h1)
 ·exact .inr (.inr (.inl h1))
 ·obtain ⟨y,hy,rfl⟩:=List.mem_map.1 hx
  refine .inr (.inr (.inr ⟨y,hy,?_⟩))
  rcases h1 with h1|h1
  ·exact .inl h1
  ·exact .inr ((cutV_own _ _).symm.trans h1)
theorem has_crash {F:Nat→Prop} {kp:Int} (hF:∀ k,foot p mb cr es k→F k) (hlt:∀ k,F k→k < w.heap.size) (hA:At w' p (crash kp S) mb cr (mapv (truncE kp) es) D) (hb:But (foot p mb cr es) w w') :
  Has w' p (crash kp S) (grow F w w')∧But F w w' :=
 have hb2:=hb.mono (T:=F) (fun i _ e=>hF i e)
 ⟨hA.hasGrow hb2 hlt (fun k hk => .inl (hF k (foot_trunc k hk))),hb2⟩
theorem tells_put (h:Tells D es) (ha:Apart es) (hn:look n es=none) (ht:Maps.Tidy D) (e:Ent):Tells (D.put (.string n) (.held e.fb)) (ins n e es):=by
 refine ⟨fun x=>?_,fun x e2 hx z=>?_,?_⟩
 ·by_cases hx:x=n
  ·subst hx
   rw [Maps.has_put_same (k := .string x) ht.isMap trivial,look_ins_same ha hn];rfl
  ·rw [Maps.has_put_other (by simpa using hx),look_ins_other ha hn hx,h.has]
 ·by_cases hx2:x=n
  ·subst hx2
   rw [look_ins_same ha hn] at hx
   injection hx with hx
   subst hx
   exact Maps.atKey_put_same (k := .string x) ht.isMap trivial _ _
  ·rw [look_ins_other ha hn hx2] at hx
   rw [Maps.atKey_put_other (by simpa using hx2)]
   exact h.key _ _ hx z
 ·rw [Maps.size_put ht,h.has,hn,length_ins,h.size];rfl
end
end Go.Proofs.YtbhoknnjilidnaaGreatDoor.Disk
end

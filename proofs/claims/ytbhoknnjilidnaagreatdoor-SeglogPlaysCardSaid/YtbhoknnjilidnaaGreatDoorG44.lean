/- Contracts: Append, Begin and Adopt, with any plan: done, or the disk is down, and can be opened. Each frame of a log with what lies ahead of it and behind it in its segment: what a spot is. Plain lists. -/
import Derived.Test.YtbhoknnjilidnaaGreatDoorG42
import Derived.Test.YtbhoknnjilidnaaGreatDoorG43
set_option linter.unusedSimpArgs false
set_option linter.unusedVariables false
section
namespace Go.Proofs.YtbhoknnjilidnaaGreatDoor.Seg
open Go.Proofs.YtbhoknnjilidnaaGreatDoor.Mem
open Go.Proofs.YtbhoknnjilidnaaGreatDoor.Disk (Nm File St Eff Has grow errV used run tot)
open Go.Proofs.YtbhoknnjilidnaaGreatDoor.Rec (Rcd Recs Is okBody)
open Go.Proofs.YtbhoknnjilidnaaGreatDoor.Frame (frm)
open Go.Proofs.YtbhoknnjilidnaaGreatDoor.Torn (Gp gcells gpl Pcs frames size scan total piecesOf)
open Go.ChangeShapes Go.WideShapes Go.ChangeAt Go.RowKit
theorem pieces_snoc (ls:List (List Rcd)) (l:List Rcd):∀ at_,piecesOf at_ (ls++[l])=piecesOf at_ ls++[⟨at_+(frames ls).length,size l,l⟩]:=by
 induction ls with
 | nil=>intro at_;rfl
 | cons x r ih =>
  intro at_
  show ⟨at_,size x,x⟩ :: piecesOf (at_+size x) (r++[l])=⟨at_,size x,x⟩ :: (piecesOf (at_+size x) r++[_])
  rw [ih (at_+size x),Torn.frames_cons,List.length_append,Torn.frm_size,Nat.add_assoc]
theorem spots_app (a b:List Nat) (fr:Nat→List (List Rcd)):allSpots (a++b) fr=allSpots a fr++allSpots b fr:=by simp [allSpots]
theorem spots_cong {nums:List Nat} {fr fr':Nat→List (List Rcd)} (h:∀ i ∈ nums,fr i=fr' i):allSpots nums fr=allSpots nums fr':=flatMap_cong (fun i hi=>by rw [h i hi])
theorem spots_bump {nums:List Nat} {fr:Nat→List (List Rcd)} {i:Nat} (hr:nums.Pairwise (· < ·)) (hi:nums.getLast?=some i) (l:List Rcd):allSpots nums (bump fr i l)=allSpots nums fr++[⟨i,(frames (fr i)).length,size l⟩]:=by
 have hne:nums≠[]:=by intro e;rw [e] at hi;cases hi
 have e:=List.dropLast_concat_getLast hne
 have hl:nums.getLast hne=i:=by rw [List.getLast?_eq_some_getLast hne] at hi;exact Option.some.inj hi
 rw [hl] at e
 rw [← e] at hr ⊢
 have hp:=List.pairwise_append.1 hr
 rw [spots_app,spots_app]
 rw [spots_cong (nums:=nums.dropLast) (fr:=bump fr i l) (fr':=fr) (fun k hk=>bump_other fr l (fun e=>by have:=hp.2.2 k hk i (List.mem_singleton.2 rfl);omega))]
 simp [allSpots,bump_same,pieces_snoc,spotsOf]
theorem spots_more {nums:List Nat} {fr:Nat→List (List Rcd)} {k:Nat} (hk:∀ j ∈ nums,j≠k) (hf:fr k=[]) (l:List Rcd):allSpots (nums++[k]) (bump fr k l)=allSpots nums fr++[⟨k,0,size l⟩]:=by
 rw [spots_app,spots_cong (nums:=nums) (fr:=bump fr k l) (fr':=fr) (fun j hj=>bump_other fr l (hk j hj))]
 simp [allSpots,bump_same,hf,piecesOf,spotsOf]
theorem spots_next {nums:List Nat} {fr:Nat→List (List Rcd)} {k:Nat} (hf:fr k=[]):allSpots (nums++[k]) fr=allSpots nums fr:=by
 rw [spots_app]
 simp [allSpots,hf,piecesOf,spotsOf]
section
variable {w w1 w2 W W':World} {p lb g g1 g2 c:Nat} {S S1 S2:St} {F F1 F2:Nat→Prop} {limit:Int} {nums:List Nat} {base:Nat} {begun:Bool} {zs:List Nat} {vz vz1 vz2:Value} {cap:Int} {fr:Nat→List (List Rcd)} {i:Nat}
def Failed (w:World) (p lb g:Nat) (F:Nat→Prop) (limit:Int) (vz:Value) (T:St) (w':World):Prop :=
 ∃ F1 g1 c1 vz1 nums2 base2 begun2 zs2,KeptG w w' lb g F F1 vz g1 vz1∧SysAt w' p lb T limit nums2 base2 begun2 zs2 true F1 g1 c1 vz1
def Went (w:World) (p lb g:Nat) (F:Nat→Prop) (limit:Int) (vz:Value) (T:St) (cap:Int) (nums1:List Nat) (base1:Nat) (begun1:Bool) (fr1:Nat→List (List Rcd)) (i1:Nat) (w':World):Prop :=
 ∃ F1 g1 c1 vz1,KeptG w w' lb g F F1 vz g1 vz1∧SysAt w' p lb T limit nums1 base1 begun1 (szs nums1 fr1) false F1 g1 c1 vz1∧Lv T cap nums1 base1 begun1 fr1 i1
def Appended (nums:List Nat) (fr:Nat→List (List Rcd)) (i:Nat) (l:List Rcd) (nums1:List Nat) (fr1:Nat→List (List Rcd)) (i1 at_:Nat):Prop :=
 (nums1=nums∧fr1=bump fr i l∧i1=i∧at_=(frames (fr i)).length)∨(nums1=nums++[i+1]∧fr1=bump fr (i+1) l∧i1=i+1∧at_=0)
def AppendSays (w:World) (p lb g:Nat) (F:Nat→Prop) (limit:Int) (vz:Value) (cap:Int) (S:St) (nums:List Nat) (base:Nat) (begun:Bool) (fr:Nat→List (List Rcd)) (i:Nat) (l:List Rcd) (e:Ending) (w':World):Prop :=
 (∃ (T:St) (nums1:List Nat) (fr1:Nat→List (List Rcd)) (i1 at_:Nat),e = .returned (.tuple #[spV i1 at_ (size l),.nilIface])∧Appended nums fr i l nums1 fr1 i1 at_∧Went w p lb g F limit vz T cap nums1 base begun fr1 i1 w'∧tot T.files≤tot S.files+(40+size l)+4 * nums.length) ∨
 (∃ T,e = .returned (.tuple #[spV 0 0 0,errV 15])∧Failed w p lb g F limit vz T w'∧S.plan≠none∧tot T.files≤tot S.files+(40+size l)+4 * nums.length∧apFell T cap (i+1) begun base nums fr l)
theorem append_plan (h:SysAt w p lb S limit nums base begun (szs nums fr) false F g c vz) (hV:Lv S cap nums base begun fr i) (hi98:i+1≤98) {a:Option Addr} {cp:Nat} {l:List Rcd} (hr:Recs w a l) (hll:l.length≤1000000) (hl:okBody l) (hc:((tot S.files+(40+size l)+4 * nums.length:Nat):Int)≤cap) :
  Calls Tryz.prog 14 #[.pointer (some ⟨lb,0,none⟩),.slice a l.length cp] w (AppendSays w p lb g F limit vz cap S nums base begun fr i l):=by
 have hi:=hV.last
 have hL:=hV.lg
 have hn:=hV.many
 have hb:=hV.base100
 have hf:=hV.next (i+1) (by omega)
 have hzl:=szs_length nums fr
 have hn0:0 < nums.length:=List.length_pos_iff.2 hL.num.some_
 have hmax:=max_last hL.num.rising hi
 have hne:∀ k ∈ nums,k≠i+1:=fun k hk e=>by have:=hmax k hk;omega
 have hzb:∀ z ∈ szs nums fr,z≤2000000000:=fun z hz=>by
  obtain ⟨k,hk,rfl⟩:=List.mem_map.1 hz
  have h1:=hL.inv.segs k hk
  have h2:=Disk.total_le_of (f:=fun e:File=>e.bytes.length) (Disk.look_mem h1)
  have h3:=h.dsk.2.used
  have h4:(full (frames (fr k))).bytes.length=(frames (fr k)).length:=rfl
  unfold Disk.used at h3
  omega
 have hz0:0 < (szs nums fr).length:=by omega
 have hlast:=szs_last hi (Nat.sub_lt hz0 Nat.one_pos)
 have hzi:(frames (fr i)).length≤2000000000:=by rw [← hlast];exact hzb _ (List.getElem_mem _)
 have hsz:size l=(Rec.body l).length+8:=rfl
 have hs20:=hl.2.2
 have hp:=fun (W:World) (a':Option Addr) (cap':Nat) (hbW:Below w.heap.size w W) (hrW:Row W a' (size l) (frm (Rec.body l))) (hnW:a'=none→cap'=0) (haW:∀ q,a'=some q→0 < size l→w.heap.size≤q.block) =>
  put_log (h.below hbW) hrW hnW (fun q hq h0 hft=>by have h1:=haW q hq h0;have h2:=h.lt q.block hft;omega) (by omega) hi (by omega) (by omega) (fun j hj=>by have:=hmax j hj;omega) (by omega) hL.inv.t hz0 (by omega) hzb
 simp only [hlast] at hp
 by_cases hro:rot limit (frames (fr i)).length (size l)
 ·have e5:=szs_more (l:=l) hne hf
  have hro':0 < (frames (fr i)).length∧limit < (((frames (fr i)).length+size l:Nat):Int):=hro
  have hp':∀ W a' cap',Below w.heap.size w W→Row W a' (size l) (frm (Rec.body l))→(a'=none→cap'=0)→(∀ q,a'=some q→0 < size l→w.heap.size≤q.block)→Calls Tryz.prog 38 #[.pointer (some ⟨lb,0,none⟩),.slice a' (size l) cap'] W (DoneAfter W p lb g F limit vz (run (rotA (i+1) (manFile (nums++[i+1]) base begun)++apA (i+1) (frm (Rec.body l))) S) (nums++[i+1]) base begun (szs nums fr++[size l])):=fun W a' cap' q1 q2 q3 q4=>by
   have:=hp W a' cap' q1 q2 q3 q4
   simp only [if_pos hro'] at this
   exact this
  have hl1:(szs nums fr++[size l])[(szs nums fr++[size l]).length - 1]'(by simp)=0+size l:=by simp
  refine (append_yes h hr hll hl rfl hsz hp' (by simp) (by simp;omega) (i1:=i+1) (by simp) (by omega) (by simp;omega) hl1 (by omega)).mono ?_
  rcases append_there hV hi98 hl hr.1 hc with ⟨T,hT,hLT,htT⟩|⟨T,hT,hpl,htT,hF⟩
  ·rw [hT]
   rintro e w' ⟨F1,g1,c1,vz1,hK,⟨_,he,hS⟩|⟨h0,_⟩⟩
   ·exact .inl ⟨T,nums++[i+1],bump fr (i+1) l,i+1,0,he,.inr ⟨rfl,rfl,rfl,rfl⟩,⟨F1,g1,c1,vz1,hK,by rw [e5];exact hS,hLT⟩,htT⟩
   ·exact absurd rfl h0
  ·rw [hT]
   rintro e w' ⟨F1,g1,c1,vz1,hK,⟨h0,_⟩|⟨_,he,n2,b2,bg2,z2,hS⟩⟩
   ·cases h0
   ·exact .inr ⟨T,he,⟨F1,g1,c1,vz1,n2,b2,bg2,z2,hK,hS⟩,hpl,htT,hF⟩
 ·have e5:=szs_bump (fr:=fr) (l:=l) hL.num.rising hi
  have hro':¬ (0 < (frames (fr i)).length∧limit < (((frames (fr i)).length+size l:Nat):Int)):=hro
  have hp':∀ W a' cap',Below w.heap.size w W→Row W a' (size l) (frm (Rec.body l))→(a'=none→cap'=0)→(∀ q,a'=some q→0 < size l→w.heap.size≤q.block)→Calls Tryz.prog 38 #[.pointer (some ⟨lb,0,none⟩),.slice a' (size l) cap'] W (DoneAfter W p lb g F limit vz (run (apA i (frm (Rec.body l))) S) nums base begun ((szs nums fr).set ((szs nums fr).length - 1) ((frames (fr i)).length+size l))):=fun W a' cap' q1 q2 q3 q4=>by
   have:=hp W a' cap' q1 q2 q3 q4
   simp only [if_neg hro'] at this
   exact this
  have hl1:((szs nums fr).set ((szs nums fr).length - 1) ((frames (fr i)).length+size l))[((szs nums fr).set ((szs nums fr).length - 1) ((frames (fr i)).length+size l)).length - 1]'(by simp;omega)=(frames (fr i)).length+size l:=by simp
  refine (append_yes h hr hll hl rfl hsz hp' (by simp;omega) (by simp;omega) (i1:=i) hi (by omega) (by omega) hl1 (by omega)).mono ?_
  rcases append_here hV hl hr.1 hc with ⟨T,hT,hLT,htT⟩|⟨T,hT,hpl,htT,hF⟩
  ·rw [hT]
   rintro e w' ⟨F1,g1,c1,vz1,hK,⟨_,he,hS⟩|⟨h0,_⟩⟩
   ·exact .inl ⟨T,nums,bump fr i l,i,(frames (fr i)).length,he,.inl ⟨rfl,rfl,rfl,rfl⟩,⟨F1,g1,c1,vz1,hK,by rw [e5];exact hS,hLT⟩,htT⟩
   ·exact absurd rfl h0
  ·rw [hT]
   rintro e w' ⟨F1,g1,c1,vz1,hK,⟨h0,_⟩|⟨_,he,n2,b2,bg2,z2,hS⟩⟩
   ·cases h0
   ·exact .inr ⟨T,he,⟨F1,g1,c1,vz1,n2,b2,bg2,z2,hK,hS⟩,hpl,htT,hF⟩
def BeginSays (w:World) (p lb g:Nat) (F:Nat→Prop) (limit:Int) (vz:Value) (cap:Int) (S:St) (nums:List Nat) (begun:Bool) (fr:Nat→List (List Rcd)) (i:Nat) (e:Ending) (w':World):Prop :=
 (∃ T,e = .returned .nilIface∧Went w p lb g F limit vz T cap (nums++[i+1]) (i+1) true fr (i+1) w'∧tot T.files≤tot S.files+40+4 * nums.length) ∨
 (∃ T,e = .returned (errV 15)∧Failed w p lb g F limit vz T w'∧S.plan≠none∧tot T.files≤tot S.files+40+4 * nums.length∧Fell T cap (i+1) begun (all nums fr))
theorem szs_next {nums:List Nat} {fr:Nat→List (List Rcd)} {k:Nat} (hf:fr k=[]):szs (nums++[k]) fr=szs nums fr++[0]:=by
 unfold szs
 rw [List.map_append,List.map_singleton,hf]
 rfl
theorem begin_plan (h:SysAt w p lb S limit nums 0 begun (szs nums fr) false F g c vz) (hV:Lv S cap nums 0 begun fr i) (hi98:i+1≤98) (hc:((tot S.files+40+4 * nums.length:Nat):Int)≤cap) :
  Calls Tryz.prog 12 #[.pointer (some ⟨lb,0,none⟩)] w (BeginSays w p lb g F limit vz cap S nums begun fr i):=by
 have hn:=hV.many
 refine (begin_log h hV.last (by omega) (by omega) (max_last hV.lg.num.rising hV.last) hV.lg.inv.t (by rw [szs_length];omega)).mono ?_
 have hf:=hV.next (i+1) (by omega)
 rcases begin_there hV hi98 hc with ⟨T,hT,hLT,htT⟩|⟨T,hT,hpl,htT,hF⟩
 ·rw [hT]
  rintro e w' ⟨F1,g1,c1,vz1,hK,⟨_,he,hS⟩|⟨h0,_⟩⟩
  ·exact .inl ⟨T,he,⟨F1,g1,c1,vz1,hK,by rw [szs_next hf];exact hS,hLT⟩,htT⟩
  ·exact absurd rfl h0
 ·rw [hT]
  rintro e w' ⟨F1,g1,c1,vz1,hK,⟨h0,_⟩|⟨_,he,n2,b2,bg2,z2,hS⟩⟩
  ·cases h0
  ·exact .inr ⟨T,he,⟨F1,g1,c1,vz1,n2,b2,bg2,z2,hK,hS⟩,hpl,htT,hF⟩
def AdoptSays (w:World) (p lb g:Nat) (F:Nat→Prop) (limit:Int) (vz:Value) (cap:Int) (S:St) (nums:List Nat) (base:Nat) (begun:Bool) (fr:Nat→List (List Rcd)) (i:Nat) (e:Ending) (w':World):Prop :=
 (∃ T,e = .returned .nilIface∧Went w p lb g F limit vz T cap (from_ base nums) 0 false fr i w'∧tot T.files≤tot S.files+40+4 * nums.length) ∨
 (∃ T,e = .returned (errV 15)∧Failed w p lb g F limit vz T w'∧S.plan≠none∧tot T.files≤tot S.files+40+4 * nums.length∧(Fell T cap (i+1) begun (all (kept base nums) fr)∨Fell T cap (i+1) false (all (from_ base nums) fr)))
theorem adopt_plan (h:SysAt w p lb S limit nums base begun (szs nums fr) false F g c vz) (hV:Lv S cap nums base begun fr i) (h0:base≠0) (hc:((tot S.files+40+4 * nums.length:Nat):Int)≤cap) :
  Calls Tryz.prog 13 #[.pointer (some ⟨lb,0,none⟩)] w (AdoptSays w p lb g F limit vz cap S nums base begun fr i):=by
 have hn:=hV.many
 have hbi:base≤i:=by have:=hV.base_;omega
 have hdr:(szs nums fr).drop (nums.countP fun i=>decide (i < base))=szs (from_ base nums) fr:=by
  unfold szs
  rw [← List.map_drop,(take_below hV.lg.num.rising base).2]
 refine (adopts_yes h hV.lg.num.rising (by omega) hV.lows hV.lg.inv.t (szs_length nums fr) ⟨i,last_mem hV.last,hbi⟩ h0 hV.base100).mono ?_
 rw [hdr]
 rcases adopt_there hV h0 hc with ⟨T,hT,hLT,htT⟩|⟨T,hT,hpl,htT,hF⟩
 ·rw [hT]
  rintro e w' ⟨F1,g1,c1,vz1,hK,⟨_,he,hS⟩|⟨h0,_⟩⟩
  ·exact .inl ⟨T,he,⟨F1,g1,c1,vz1,hK,hS,hLT⟩,htT⟩
  ·exact absurd rfl h0
 ·rw [hT]
  rintro e w' ⟨F1,g1,c1,vz1,hK,⟨h0,_⟩|⟨_,he,n2,b2,bg2,z2,hS⟩⟩
  ·cases h0
  ·exact .inr ⟨T,he,⟨F1,g1,c1,vz1,n2,b2,bg2,z2,hK,hS⟩,hpl,htT,hF⟩
end
end Go.Proofs.YtbhoknnjilidnaaGreatDoor.Seg
end
section
namespace Go.Proofs.YtbhoknnjilidnaaGreatDoor.Seg
open Go.Proofs.YtbhoknnjilidnaaGreatDoor.Mem
open Go.Proofs.YtbhoknnjilidnaaGreatDoor.Disk (Nm File St)
open Go.Proofs.YtbhoknnjilidnaaGreatDoor.Rec (Rcd Is okBody)
open Go.Proofs.YtbhoknnjilidnaaGreatDoor.Frame (frm)
open Go.Proofs.YtbhoknnjilidnaaGreatDoor.Torn (Pc one frames size frm_size scan total piecesOf)
structure Tag where
 seg:Nat
 pre:List (List Rcd)
 l:List Rcd
 post:List (List Rcd)
def tags (i:Nat):List (List Rcd)→List (List Rcd)→List Tag
 | _,[]=>[]
 | pre,l :: r=>⟨i,pre,l,r⟩ :: tags i (pre++[l]) r
def tagSp (t:Tag):Sp:=⟨t.seg,(frames t.pre).length,size t.l⟩
theorem frames_snoc (pre:List (List Rcd)) (l:List Rcd):(frames (pre++[l])).length=(frames pre).length+size l:=by
 unfold frames
 rw [List.flatMap_append,List.length_append]
 simp [← frm_size]
theorem tags_spots (i:Nat) (ls:List (List Rcd)):∀ pre,(tags i pre ls).map tagSp=spotsOf i (piecesOf (frames pre).length ls):=by
 induction ls with
 | nil=>intro pre;rfl
 | cons l r ih =>
  intro pre
  show tagSp ⟨i,pre,l,r⟩ :: (tags i (pre++[l]) r).map tagSp=⟨i,(frames pre).length,size l⟩ :: spotsOf i (piecesOf ((frames pre).length+size l) r)
  rw [ih,frames_snoc]
  rfl
theorem tags_all (i:Nat) (ls:List (List Rcd)):∀ pre,(tags i pre ls).map Tag.l=ls:=by
 induction ls with
 | nil=>intro pre;rfl
 | cons l r ih=>intro pre;show l :: (tags i (pre++[l]) r).map Tag.l=l :: r;rw [ih]
theorem tags_ok (i:Nat) (ls:List (List Rcd)):∀ pre,∀ t ∈ tags i pre ls,t.seg=i∧pre++ls=t.pre++t.l :: t.post:=by
 induction ls with
 | nil=>intro pre t ht;cases ht
 | cons l r ih =>
  intro pre t ht
  rcases List.mem_cons.1 ht with h1|h1
  ·rw [h1];exact ⟨rfl,rfl⟩
  ·obtain ⟨h2,h3⟩:=ih (pre++[l]) t h1
   exact ⟨h2,by rw [← h3];simp⟩
def allTags (nums:List Nat) (fr:Nat→List (List Rcd)):List Tag:=nums.flatMap fun i=>tags i [] (fr i)
theorem flatMap_map {α β γ:Type} (l:List α) (f:α→List β) (g:β→γ):(l.flatMap f).map g=l.flatMap fun i=>(f i).map g:=by
 induction l with
 | nil=>rfl
 | cons i r ih=>rw [List.flatMap_cons,List.flatMap_cons,List.map_append,ih]
theorem allTags_spots (nums:List Nat) (fr:Nat→List (List Rcd)):allSpots nums fr=(allTags nums fr).map tagSp:=by
 unfold allSpots allTags
 rw [flatMap_map]
 exact flatMap_cong (fun i _=>(tags_spots i (fr i) []).symm)
theorem allTags_all (nums:List Nat) (fr:Nat→List (List Rcd)):all nums fr=(allTags nums fr).map Tag.l:=by
 unfold all allTags
 rw [flatMap_map]
 exact flatMap_cong (fun i _=>(tags_all i (fr i) []).symm)
theorem allTags_ok {nums:List Nat} {fr:Nat→List (List Rcd)} {t:Tag} (h:t ∈ allTags nums fr):t.seg ∈ nums∧fr t.seg=t.pre++t.l :: t.post:=by
 obtain ⟨i,hi,ht⟩:=List.mem_flatMap.1 h
 obtain ⟨h1,h2⟩:=tags_ok i (fr i) [] t ht
 rw [List.nil_append] at h2
 rw [h1]
 exact ⟨hi,h2⟩
theorem sum_sizes (i:Nat) (ls:List (List Rcd)):∀ k,((spotsOf i (piecesOf k ls)).map Sp.len).sum=(frames ls).length:=by
 induction ls with
 | nil=>intro k;rfl
 | cons l r ih =>
  intro k
  show size l+((spotsOf i (piecesOf (k+size l) r)).map Sp.len).sum=(frames (l :: r)).length
  rw [ih,Torn.frames_cons,List.length_append,frm_size]
theorem sum_spots (nums:List Nat) (fr:Nat→List (List Rcd)):((allSpots nums fr).map Sp.len).sum=(szs nums fr).sum:=by
 unfold allSpots szs
 induction nums with
 | nil=>rfl
 | cons i r ih=>rw [List.flatMap_cons,List.map_append,List.sum_append,ih,sum_sizes,List.map_cons,List.sum_cons]
theorem read_scan {pre post:List (List Rcd)} {l:List Rcd} (hl:okBody l) (hi:∀ r ∈ l,Is r):scan 0 (((frames (pre++l :: post)).drop (frames pre).length).take (size l))=[⟨0,size l,l⟩]:=by
 have e:frames (pre++l :: post)=frames pre++(frm (Rec.body l)++frames post):=by simp [frames]
 rw [e,List.drop_left,← frm_size l,List.take_left]
 have h1:=(scan_all (ls:=[l]) (tail:=[]) (fun m hm=>by rw [List.mem_singleton.1 hm];exact ⟨hl,hi⟩) 0 Torn.one_nil).1
 have e2:frames [l]++[]=frm (Rec.body l):=by simp [frames]
 rw [e2] at h1
 rw [h1,frm_size]
 rfl
theorem read_len {pre post:List (List Rcd)} {l:List Rcd}:(frames pre).length+size l≤(frames (pre++l :: post)).length:=by
 have e:frames (pre++l :: post)=frames pre++(frm (Rec.body l)++frames post):=by simp [frames]
 rw [e,List.length_append,List.length_append,frm_size]
 omega
end Go.Proofs.YtbhoknnjilidnaaGreatDoor.Seg
end

/- The library's contracts on sorted keys of a map, laid at this translation by the kit's tools. Contract of disk's List: the names, rising. What stays so of a disk, whatever is called: its names rise, and it holds no more than it may. -/
import Derived.Shelf.SlGeneric
import Derived.Shelf.SlIter.Nil
import Derived.Shelf.SortM.Plain
import Derived.Shelf.SortM.SortNone
import Derived.Ground.GgzProg
import Derived.Ground.SlgmProg
import Derived.Test.YtbhoknnjilidnaaGreatDoorProg
import Derived.Test.YtbhoknnjilidnaaGreatDoorG23
import Derived.Test.YtbhoknnjilidnaaGreatDoorG21
set_option linter.unusedVariables false
set_option maxHeartbeats 1000000
section
namespace Go.Proofs
open Go.RowKit Go.Maps Go.Sort Go.Shelf
def Tryz.keys84_ren:Go.Shelf.Ren:=⟨fun|7=>84|10=>108|n=>n,fun|23=>62|26=>9|3=>80|28=>142|0=>0|27=>141|33=>151|4=>4|n=>n,fun|n=>n⟩
theorem Tryz.keys84:Go.Proofs.SlLaysZ.n7 Tryz.prog Tryz.keys84_ren:={
 mixed:=by kernel_rfl
 f7:=⟨Tryz.f84.name,by decide,Tryz.func84.trans (congrArg some (by kernel_rfl))⟩
 f10:=⟨Tryz.f108.name,by decide,Tryz.func108.trans (congrArg some (by kernel_rfl))⟩
 t0:=Tryz.underlying0
 a0:=Tryz.isAgg0
 z0:=Tryz.sizeOf0
 v0:=Tryz.zeroValue0
 t4:=Tryz.underlying4
 a4:=Tryz.isAgg4
 z4:=Tryz.sizeOf4
 v4:=Tryz.zeroValue4
 t23:=Tryz.underlying62
 a23:=Tryz.isAgg62
 z23:=Tryz.sizeOf62
 v23:=Tryz.zeroValue62
 t26:=Tryz.underlying9
 a26:=Tryz.isAgg9
 z26:=Tryz.sizeOf9
 v26:=Tryz.zeroValue9
 t27:=Tryz.underlying141
 a27:=Tryz.isAgg141
 z27:=Tryz.sizeOf141
 v27:=Tryz.zeroValue141
 t28:=Tryz.underlying142
 a28:=Tryz.isAgg142
 z28:=Tryz.sizeOf142
 v28:=Tryz.zeroValue142
 t33:=Tryz.underlying151
 a33:=Tryz.isAgg151
 z33:=Tryz.sizeOf151
 v33:=Tryz.zeroValue151 }
def Tryz.sorted83_ren:Go.Shelf.Ren:=⟨fun|6=>83|8=>106|9=>107|11=>115|13=>117|12=>116|23=>132|24=>133|14=>123|15=>124|16=>125|17=>126|18=>127|19=>128|20=>129|21=>130|22=>131|25=>138|26=>139|27=>140|28=>141|29=>142|30=>143|31=>146|n=>n,fun|26=>9|28=>142|24=>110|0=>0|3=>3|37=>154|48=>54|50=>77|4=>4|40=>181|39=>180|45=>112|5=>5|9=>9|51=>191|55=>195|57=>197|58=>198|33=>151|n=>n,fun|n=>n⟩
theorem Tryz.sorted83:Go.Proofs.SlLaysZ.n6 Tryz.prog Tryz.sorted83_ren:={
 mixed:=by kernel_rfl
 f6:=⟨Tryz.f83.name,by decide,Tryz.func83.trans (congrArg some (by kernel_rfl))⟩
 f8:=⟨Tryz.f106.name,by decide,Tryz.func106.trans (congrArg some (by kernel_rfl))⟩
 f11:=⟨Tryz.f115.name,by decide,Tryz.func115.trans (congrArg some (by kernel_rfl))⟩
 t0:=Tryz.underlying0
 a0:=Tryz.isAgg0
 z0:=Tryz.sizeOf0
 v0:=Tryz.zeroValue0
 t24:=Tryz.underlying110
 a24:=Tryz.isAgg110
 z24:=Tryz.sizeOf110
 v24:=Tryz.zeroValue110
 t26:=Tryz.underlying9
 a26:=Tryz.isAgg9
 z26:=Tryz.sizeOf9
 v26:=Tryz.zeroValue9
 t28:=Tryz.underlying142
 a28:=Tryz.isAgg142
 z28:=Tryz.sizeOf142
 v28:=Tryz.zeroValue142
 i26:=by kernel_rfl }
def Tryz.sort107_ren:Go.Shelf.Ren:=⟨fun|6=>107|8=>117|9=>116|19=>132|20=>133|21=>123|22=>124|23=>125|24=>126|25=>127|26=>128|27=>129|28=>130|29=>131|36=>138|31=>139|32=>140|37=>141|38=>142|39=>143|41=>146|n=>n,fun|27=>110|29=>9|3=>3|32=>154|26=>110|0=>0|44=>54|46=>77|4=>4|36=>181|35=>180|41=>112|5=>5|9=>9|53=>191|57=>195|63=>197|64=>198|n=>n,fun|n=>n⟩
theorem Tryz.sort107:Go.Proofs.SlLaysM.n6 Tryz.prog Tryz.sort107_ren:={
 mixed:=by kernel_rfl
 f6:=⟨Tryz.f107.name,by decide,Tryz.func107.trans (congrArg some (by kernel_rfl))⟩
 f8:=Tryz.func117.trans (congrArg some (by kernel_rfl))
 f9:=⟨Tryz.f116.name,by decide,Tryz.func116.trans (congrArg some (by kernel_rfl))⟩
 f19:=Tryz.func132.trans (congrArg some (by kernel_rfl))
 f20:=Tryz.func133.trans (congrArg some (by kernel_rfl))
 f21:=⟨Tryz.f123.name,by decide,Tryz.func123.trans (congrArg some (by kernel_rfl))⟩
 f22:=⟨Tryz.f124.name,by decide,Tryz.func124.trans (congrArg some (by kernel_rfl))⟩
 f23:=⟨Tryz.f125.name,by decide,Tryz.func125.trans (congrArg some (by kernel_rfl))⟩
 f24:=⟨Tryz.f126.name,by decide,Tryz.func126.trans (congrArg some (by kernel_rfl))⟩
 f25:=⟨Tryz.f127.name,by decide,Tryz.func127.trans (congrArg some (by kernel_rfl))⟩
 f26:=⟨Tryz.f128.name,by decide,Tryz.func128.trans (congrArg some (by kernel_rfl))⟩
 f27:=⟨Tryz.f129.name,by decide,Tryz.func129.trans (congrArg some (by kernel_rfl))⟩
 f28:=⟨Tryz.f130.name,by decide,Tryz.func130.trans (congrArg some (by kernel_rfl))⟩
 f29:=⟨Tryz.f131.name,by decide,Tryz.func131.trans (congrArg some (by kernel_rfl))⟩
 f31:=Tryz.func139.trans (congrArg some (by kernel_rfl))
 f32:=Tryz.func140.trans (congrArg some (by kernel_rfl))
 f36:=⟨Tryz.f138.name,by decide,Tryz.func138.trans (congrArg some (by kernel_rfl))⟩
 f37:=⟨Tryz.f141.name,by decide,Tryz.func141.trans (congrArg some (by kernel_rfl))⟩
 f38:=⟨Tryz.f142.name,by decide,Tryz.func142.trans (congrArg some (by kernel_rfl))⟩
 f39:=⟨Tryz.f143.name,by decide,Tryz.func143.trans (congrArg some (by kernel_rfl))⟩
 f41:=⟨Tryz.f146.name,by decide,Tryz.func146.trans (congrArg some (by kernel_rfl))⟩
 t0:=Tryz.underlying0
 a0:=Tryz.isAgg0
 z0:=Tryz.sizeOf0
 v0:=Tryz.zeroValue0
 t3:=Tryz.underlying3
 a3:=Tryz.isAgg3
 z3:=Tryz.sizeOf3
 v3:=Tryz.zeroValue3
 t4:=Tryz.underlying4
 a4:=Tryz.isAgg4
 z4:=Tryz.sizeOf4
 v4:=Tryz.zeroValue4
 t5:=Tryz.underlying5
 a5:=Tryz.isAgg5
 z5:=Tryz.sizeOf5
 v5:=Tryz.zeroValue5
 t9:=Tryz.underlying9
 a9:=Tryz.isAgg9
 z9:=Tryz.sizeOf9
 v9:=Tryz.zeroValue9
 t26:=Tryz.underlying110
 a26:=Tryz.isAgg110
 z26:=Tryz.sizeOf110
 v26:=Tryz.zeroValue110
 t27:=Tryz.underlying110
 a27:=Tryz.isAgg110
 z27:=Tryz.sizeOf110
 v27:=Tryz.zeroValue110
 t29:=Tryz.underlying9
 a29:=Tryz.isAgg9
 z29:=Tryz.sizeOf9
 v29:=Tryz.zeroValue9
 t32:=Tryz.underlying154
 a32:=Tryz.isAgg154
 z32:=Tryz.sizeOf154
 v32:=Tryz.zeroValue154
 t35:=Tryz.underlying180
 a35:=Tryz.isAgg180
 z35:=Tryz.sizeOf180
 v35:=Tryz.zeroValue180
 t36:=Tryz.underlying181
 a36:=Tryz.isAgg181
 z36:=Tryz.sizeOf181
 v36:=Tryz.zeroValue181
 t41:=Tryz.underlying112
 a41:=Tryz.isAgg112
 z41:=Tryz.sizeOf112
 v41:=Tryz.zeroValue112
 t44:=Tryz.underlying54
 a44:=Tryz.isAgg54
 z44:=Tryz.sizeOf54
 v44:=Tryz.zeroValue54
 t46:=Tryz.underlying77
 a46:=Tryz.isAgg77
 z46:=Tryz.sizeOf77
 v46:=Tryz.zeroValue77
 t53:=Tryz.underlying191
 a53:=Tryz.isAgg191
 z53:=Tryz.sizeOf191
 v53:=Tryz.zeroValue191
 t57:=Tryz.underlying195
 a57:=Tryz.isAgg195
 z57:=Tryz.sizeOf195
 v57:=Tryz.zeroValue195
 t63:=Tryz.underlying197
 a63:=Tryz.isAgg197
 z63:=Tryz.sizeOf197
 v63:=Tryz.zeroValue197
 t64:=Tryz.underlying198
 a64:=Tryz.isAgg198
 z64:=Tryz.sizeOf198
 v64:=Tryz.zeroValue198 }
theorem Tryz.sorts83 (m:Nat):AnyZ.SortsIn Tryz.prog Tryz.sorted83_ren Fence.wide m :=
 ⟨fun blk off cap ss W hH hblk hsz=>callsIn_wide.2 (AnyM.slices_Sort_string Tryz.sort107 blk off cap ss W hH hblk hsz),
 fun p cap W=>callsIn_wide.2 (AnyM.slices_Sort_string_none Tryz.sort107 p cap W)⟩
theorem Tryz.maps_Keys_84 (mb:Option Nat) (W:World):CallsIn Fence.wide 5 Tryz.prog 84 #[.map mb] W fun e w'=>e = .returned (.func (.func 108) #[] #[.pointer (some ⟨W.heap.size,0,none⟩)])∧w'=W.alloc (.cells #[.map mb] 62) :=
 AnyZ.keys_in Tryz.keys84 Fence.wide 5 trivial rfl mb W
theorem Tryz.slices_Sorted_keys_83_84 {H:Type} (b nn:Nat) (D0:DataW H) (R:Value→Option (DataW H × List MemPlace)) (w:World) (hown:w.ownsMap Tryz.prog 9 R b nn D0) (hmax:Maps.size D0≤maxLen) (hbytes:Maps.size D0 * 16≤140737488355328) :
  CallsIn Fence.wide 5 Tryz.prog 83 #[.func (.func 108) #[] #[.pointer (some ⟨w.heap.size,0,none⟩)]] (w.alloc (.cells #[.map (some b)] 62)) fun e w'=>∃ (v:Value) (ss:List (List UInt8)),e = .returned v∧ss.Perm (strKeys D0) ∧
   w'.ownsRow (w.alloc (.cells #[.map (some b)] 62)).heap.size 9 1 v ss.length ((ss.mergeSort (fun x y=>decide (x≤y))).map encStr)∧(v = .slice none 0 0 ↔ ss=[])∧Below (w.alloc (.cells #[.map (some b)] 62)).heap.size (w.alloc (.cells #[.map (some b)] 62)) w':=by
 have hbl:=hown.lt
 have hseq:SeqGives Fence.wide 2 Tryz.prog 108 #[.pointer (some ⟨w.heap.size,0,none⟩)] encStr (fun ss=>ss.Perm (strKeys D0)) (Maps.size D0) (w.alloc (.cells #[.map (some b)] 62)) :=
  AnyZ.keys_gives (ρ:=Tryz.keys84_ren) { Tryz.keys84 with } Fence.wide _ trivial rfl (by omega) w.heap.size b nn D0 _ (by simp) (by simp) (by
   obtain ⟨es,clock,hb,Ft,hs,hD⟩:=hown
   exact ⟨es,clock,(Below.heap_alloc _ _ b hbl).trans hb,Ft,hs,hD⟩)
 exact AnyZ.sorted_in Tryz.sorted83 Fence.wide 5 trivial trivial trivial trivial rfl (by omega) (Tryz.sorts83 _) (enters_of Tryz.func107 (by kernel_rfl) rfl) 108 #[.pointer (some ⟨w.heap.size,0,none⟩)] trivial (enters_of Tryz.func108 (by kernel_rfl) rfl) _ _ hmax hbytes _ hseq
end Go.Proofs
end
section
namespace Go.Proofs.YtbhoknnjilidnaaGreatDoor.Disk
open Go.Proofs.YtbhoknnjilidnaaGreatDoor.Mem
open Go.ChangeShapes Go.WideShapes Go.ChangeAt Go.RowKit Go.Sort Go.Shelf
open Go.Proofs (encStr)
def Rising {α:Type} (l:List (Nm × α)):Prop:=l.Pairwise fun x y=>x.1 < y.1
theorem lt_irrefl_nm (x:Nm):¬ x < x:=List.lt_irrefl x
theorem Rising.apart {α:Type} {l:List (Nm × α)} (h:Rising l):Apart l:=h.imp fun {x y} hlt e=>by rw [e] at hlt;exact lt_irrefl_nm _ hlt
theorem names_sorted {D:DataW Nat} {es:List (Nm × Ent)} {w:World} {mb n:Nat} (hr:Rising es) (ht:Tells D es) (hm:w.ownsMap Tryz.prog 9 ptrElem mb n D) {ss:List Nm} (hp:ss.Perm (strKeys D)) :
  ss.mergeSort (fun x y=>decide (x≤y))=es.map (·.1)∧ss.length=es.length:=by
 obtain ⟨xs,hD,hpw,_⟩:=hm.entries law
 obtain ⟨xs',hD',hko⟩:=hm.keysOf
 have hxx:xs=xs':=by rw [hD] at hD';simpa using hD'
 subst hxx
 have hnd:(es.map (·.1)).Nodup:=List.pairwise_map.2 hr.apart
 have hp2:(es.map (·.1)).Perm (strKeys D):=by
  rw [hD]
  refine perm_strKeys hpw (fun p hp=>by obtain ⟨v,hv⟩:=hko p hp;obtain ⟨x,_,hx,_⟩:=Maps.keyOf_str Tryz.underlying9 hv;exact ⟨x,hx⟩) hnd (fun x=>?_)
  rw [← hD,ht.has,Option.isSome_iff_exists,List.mem_map]
  constructor
  ·rintro ⟨y,hy,rfl⟩
   exact ⟨y.2,look_of_mem hr.apart hy⟩
  ·rintro ⟨e,he⟩
   exact ⟨_,look_mem he,rfl⟩
 have h3:=mergeSort_of_perm (hp.trans hp2.symm)
 have h4:(es.map (·.1)).mergeSort leB=es.map (·.1):=by
  refine List.mergeSort_of_pairwise (List.pairwise_map.2 (hr.imp fun {x y} h=>?_))
  simp only [leB,decide_eq_true_eq]
  exact List.le_of_lt h
 refine ⟨h3.trans h4,?_⟩
 have:=(hp.trans hp2.symm).length_eq
 simpa using this
theorem list_at {w:World} {p mb:Nat} {S:St} {cr:Option Addr} {es:List (Nm × Ent)} {D:DataW Nat} (h:At w p S mb cr es D) (hr:Rising es) (hlen:es.length≤1000000) :
  Calls Tryz.prog 53 #[.pointer (some ⟨p,0,none⟩)] w fun e w'=>∃ v,e = .returned v∧w'.ownsRow w.heap.size 9 1 v es.length ((es.map (·.1)).map encStr)∧Below w.heap.size w w':=by
 have c0:w.cell? ⟨p,0,none⟩=some (.map (some mb)):=h.blk.cell 0
 have hm:=h.map
 have ht:=Lib.hid h.tells
 have hmax:Maps.size D≤maxLen:=by rw [h.tells.size];unfold maxLen;omega
 have hbytes:Maps.size D * 16≤140737488355328:=by rw [h.tells.size];omega
 clear h
 refine (callsIn_wide (n:=6)).1 ?_
 have hfK:Fence.wide.fn 84:=trivial
 have hfS:Fence.wide.fn 83:=trivial
 refine callsIn_of_wp Tryz.func53 rfl trivial ?_ rfl
 simp only [Tryz.ntmps53,List.size_toArray,List.length_cons,List.length_nil,Nat.reduceAdd,Nat.reduceSub,Array.replicate_succ,Array.replicate_zero,List.push_toArray,List.append_toArray,List.nil_append,List.cons_append]
 gi_wp2_with (first
  | (gi_at_call 84;refine (Tryz.maps_Keys_84 _ _).mono ?_;rintro e w' ⟨rfl,rfl⟩)
  | (gi_at_call 83;refine (Tryz.slices_Sorted_keys_83_84 mb es.length D ptrElem w hm hmax hbytes).mono ?_;rintro e w' ⟨v,ss,rfl,hS,hrow,hnil,hb⟩))
 go_ret
 obtain ⟨e1,e2⟩:=names_sorted hr ht.out hm hS
 refine ⟨v,rfl,?_,((Below.refl _ w).alloc (Nat.le_refl _) _).trans (hb.mono (by simp))⟩
 rw [e1,e2] at hrow
 exact ownsRow_base_a hrow (by simp)
end Go.Proofs.YtbhoknnjilidnaaGreatDoor.Disk
end
section
namespace Go.Proofs.YtbhoknnjilidnaaGreatDoor.Seg
open Go.Proofs.YtbhoknnjilidnaaGreatDoor.Mem
open Go.Proofs.YtbhoknnjilidnaaGreatDoor.Disk (Nm File St Eff Fs Apart Rising ins del upd mapv moved tot trunc run effect_rec call_eq crash stepS now used)
structure Ok (S:St):Prop where
 rising:Rising S.files
 used:used S≤1000000
 cap:S.cap≤1000000
 many:S.files.length≤1000
section
variable {α β:Type}
theorem rising_ins {n:Nm} {a:α} {l:List (Nm × α)} (h:Rising l) (hn:Disk.look n l=none):Rising (ins n a l):=by
 induction l with
 | nil=>exact List.pairwise_singleton _ _
 | cons x r ih =>
  obtain ⟨h1,h2⟩:=List.pairwise_cons.1 h
  have hx:x.1≠n:=Disk.look_none.1 hn x List.mem_cons_self
  have hr:Disk.look n r=none:=Disk.look_none.2 (fun y hy=>Disk.look_none.1 hn y (List.mem_cons_of_mem _ hy))
  unfold ins
  split
  ·rename_i hlt
   refine List.pairwise_cons.2 ⟨fun y hy=>?_,ih h2 hr⟩
   rcases Disk.mem_ins.1 hy with rfl|hy
   ·exact hlt
   ·exact h1 y hy
  ·rename_i hlt
   have hlt2:n < x.1:=by
    rcases List.le_iff_lt_or_eq.1 (List.not_lt.1 hlt) with h3|h3
    ·exact h3
    ·exact absurd h3.symm hx
   refine List.pairwise_cons.2 ⟨fun y hy=>?_,h⟩
   rcases List.mem_cons.1 hy with rfl|hy
   ·exact hlt2
   ·exact List.lt_trans hlt2 (h1 y hy)
theorem rising_del {l:List (Nm × α)} (h:Rising l) (n:Nm):Rising (del n l):=h.filter _
theorem rising_upd {l:List (Nm × α)} (h:Rising l) (n:Nm) (f:α→α):Rising (upd n f l):=by
 refine List.pairwise_map.2 (h.imp fun {x y} hne=>?_)
 split <;> split <;> exact hne
theorem rising_mapv {l:List (Nm × α)} (h:Rising l) (f:α→β):Rising (mapv f l):=List.pairwise_map.2 h
theorem rising_of_mapv {l:List (Nm × α)} {f:α→β} (h:Rising (mapv f l)):Rising l:=by
 have h1:=List.pairwise_map.1 h
 exact h1
end
theorem rising_on {cap:Int} {x:Eff} {l:Fs} (hm:x.may cap l) (h:Rising l):Rising (x.on l):=by
 cases x with
 | new n=>exact rising_ins h hm.1
 | add n b=>exact rising_upd h n (fun f=>⟨f.bytes++b,f.synced⟩)
 | syn n=>exact rising_upd h n (fun f=>⟨f.bytes,f.bytes.length⟩)
 | short n k=>exact rising_upd h n (fun f=>⟨f.bytes.take k,min f.synced k⟩)
 | move n m =>
  show Rising (moved n m l)
  unfold moved
  split
  ·exact rising_ins (rising_del (rising_del h n) m) Disk.look_del_same
  ·exact h
 | gone n=>exact rising_del h n
theorem may_mayV {cap:Int} {x:Eff} {l:Fs} (h:x.may cap l):mayV x (fun k=>Disk.look k l):=by
 cases x with
 | new n=>exact h.1
 | add n b=>exact h.1
 | syn n=>exact h
 | short n k=>exact h
 | move n m=>exact h
 | gone n=>exact h
theorem call_not (x:Eff) (S:St) (h:¬ (S.down=false∧x.may S.cap S.files)):(x.call S).2=S∧(x.call S).1≠0:=by
 by_cases hd:S.down=true
 ·cases x <;> simp [Eff.call,Disk.create,Disk.append,Disk.sync,Disk.cut,Disk.rename,Disk.delete,hd]
 ·have hd':S.down=false:=by simpa using hd
  have hm:¬ x.may S.cap S.files:=fun hm=>h ⟨hd',hm⟩
  cases x with
  | new n =>
   replace hm:=Classical.not_and_iff_not_or_not.1 hm
   show (Disk.create S n).2=S∧(Disk.create S n).1≠0
   unfold Disk.create
   rw [hd',if_neg (by simp)]
   by_cases h1:(Disk.look n S.files).isSome=true
   ·rw [if_pos h1];exact ⟨rfl,by simp⟩
   ·have h1':Disk.look n S.files=none:=by simpa using h1
    rw [if_neg h1]
    by_cases h2:1000≤S.files.length
    ·rw [if_pos h2];exact ⟨rfl,by simp⟩
    ·rcases hm with hm|hm
     ·exact absurd h1' hm
     ·omega
  | add n b =>
   replace hm:=Classical.not_and_iff_not_or_not.1 hm
   show (Disk.append S n b).2=S∧(Disk.append S n b).1≠0
   unfold Disk.append
   rw [hd',if_neg (by simp)]
   by_cases h1:(Disk.look n S.files).isNone=true
   ·rw [if_pos h1];exact ⟨rfl,by simp⟩
   ·rw [if_neg h1]
    have h1':(Disk.look n S.files).isSome=true:=by cases e:Disk.look n S.files <;> simp_all
    by_cases h2:S.cap < ((used S+b.length:Nat):Int)
    ·rw [if_pos h2];exact ⟨rfl,by simp⟩
    ·rcases hm with hm|hm
     ·exact absurd h1' hm
     ·unfold Disk.used at h2
      unfold Disk.tot at hm
      omega
  | syn n =>
   have h1:(Disk.look n S.files).isNone=true:=by
    have:¬ (Disk.look n S.files).isSome=true:=hm
    cases e:Disk.look n S.files <;> simp_all
   show (Disk.sync S n).2=S∧(Disk.sync S n).1≠0
   unfold Disk.sync
   rw [hd',if_neg (by simp),if_pos h1];exact ⟨rfl,by simp⟩
  | short n k =>
   show (Disk.cut S n k).2=S∧(Disk.cut S n k).1≠0
   unfold Disk.cut
   rw [hd',if_neg (by simp)]
   cases e:Disk.look n S.files with
   | none=>exact ⟨rfl,by simp⟩
   | some f =>
    simp only
    have h2:¬ k≤f.bytes.length:=fun hk=>hm ⟨f,e,hk⟩
    rw [if_pos (by omega)];exact ⟨rfl,by simp⟩
  | move n m =>
   have h1:(Disk.look n S.files).isNone=true:=by
    have:¬ (Disk.look n S.files).isSome=true:=hm
    cases e:Disk.look n S.files <;> simp_all
   show (Disk.rename S n m).2=S∧(Disk.rename S n m).1≠0
   unfold Disk.rename
   rw [hd',if_neg (by simp),if_pos h1];exact ⟨rfl,by simp⟩
  | gone n =>
   have h1:(Disk.look n S.files).isNone=true:=by
    have:¬ (Disk.look n S.files).isSome=true:=hm
    cases e:Disk.look n S.files <;> simp_all
   show (Disk.delete S n).2=S∧(Disk.delete S n).1≠0
   unfold Disk.delete
   rw [hd',if_neg (by simp),if_pos h1];exact ⟨rfl,by simp⟩
theorem ok_call (x:Eff) {S:St} (h:Ok S):Ok (x.call S).2:=by
 by_cases hm:S.down=false∧x.may S.cap S.files
 ·rw [call_eq x S hm.1 hm.2]
  obtain ⟨g1,g2⟩:=grown1 h.rising.apart (may_mayV hm.2)
  refine effect_rec (P:=fun r=>Ok r.2) (fun kp _=>⟨rising_mapv h.rising _,Nat.le_trans (Disk.used_crash kp S) h.used,h.cap,?_⟩) (fun _=>⟨rising_on hm.2 h.rising,?_,h.cap,?_⟩)
  ·show (mapv (trunc kp) S.files).length≤1000
   rw [Disk.length_mapv];exact h.many
  ·show tot (x.on S.files)≤1000000
   have h1:tot S.files≤1000000:=h.used
   have h2:=h.cap
   cases x with
   | add n b=>have:=hm.2.2;have e:add1 (.add n b)=b.length:=rfl;omega
   | new n=>have e:add1 (.new n)=0:=rfl;omega
   | syn n=>have e:add1 (.syn n)=0:=rfl;omega
   | short n k=>have e:add1 (.short n k)=0:=rfl;omega
   | move n m=>have e:add1 (.move n m)=0:=rfl;omega
   | gone n=>have e:add1 (.gone n)=0:=rfl;omega
  ·show (x.on S.files).length≤1000
   have h1:=h.many
   cases x with
   | new n=>have:=hm.2.2;have e:new1 (.new n)=1:=rfl;omega
   | add n b=>have e:new1 (.add n b)=0:=rfl;omega
   | syn n=>have e:new1 (.syn n)=0:=rfl;omega
   | short n k=>have e:new1 (.short n k)=0:=rfl;omega
   | move n m=>have e:new1 (.move n m)=0:=rfl;omega
   | gone n=>have e:new1 (.gone n)=0:=rfl;omega
 ·rw [(call_not x S hm).1];exact h
theorem run_one (x:Eff) (S:St):run [x] S=x.call S:=by
 show (if (x.call S).1=0 then run [] (x.call S).2 else x.call S)=_
 split
 ·rename_i h
  show ((0:Int),(x.call S).2)=x.call S
  rw [← h]
 ·rfl
theorem run_cons_ok {x:Eff} {r:List Eff} {S:St} (h:(x.call S).1=0):run (x :: r) S=run r (x.call S).2:=if_pos h
theorem run_cons_err {x:Eff} {r:List Eff} {S:St} (h:(x.call S).1≠0):run (x :: r) S=x.call S:=if_neg h
theorem run_app_ok {a b:List Eff} {S:St} (h:(run a S).1=0):run (a++b) S=run b (run a S).2:=by rw [Disk.run_app,if_pos h]
theorem run_app_err {a b:List Eff} {S:St} (h:(run a S).1≠0):run (a++b) S=run a S:=by rw [Disk.run_app,if_neg h]
theorem ok_fresh {cap:Int} (h:cap≤1000000):Ok (Disk.fresh cap):=⟨List.Pairwise.nil,by show (0:Nat)≤_;omega,h,by show (0:Nat)≤_;omega⟩
end Go.Proofs.YtbhoknnjilidnaaGreatDoor.Seg
end

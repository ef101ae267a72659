/- Contract: files that a manifest doesn't tell are deleted. Rows that a log's scan makes: pieces, where each lies, the segments' sizes; what of them stays while others are made. -/
import Derived.Test.YtbhoknnjilidnaaGreatDoorG31
set_option linter.unusedSimpArgs false
set_option linter.unusedVariables false
set_option maxHeartbeats 8000000
set_option maxRecDepth 100000
section
namespace Go.Proofs.YtbhoknnjilidnaaGreatDoor.Seg
open Go.Proofs.YtbhoknnjilidnaaGreatDoor.Mem
open Go.Proofs.YtbhoknnjilidnaaGreatDoor.Disk (Nm File St Eff Has grow errV used lenOf run)
open Go.Proofs (encStr)
open Go.ChangeShapes Go.WideShapes Go.ChangeAt Go.RowKit
open Go.Maps (Keyed)
section
variable {w w1 w2:World} {p:Nat} {S S1 S2:St} {F F1 F2:Nat→Prop}
theorem Can.below {n:Nat} (h:Can w n) (hb:Below w.heap.size w w1):Can w1 n:=by
 rcases h with h|h
 ·exact .inl h
 ·refine .inr ?_
  unfold Lib.TabIs at h ⊢
  unfold World.var? at h ⊢
  cases hg : (Tryz.prog).globalNamed "internal/strconv.uint64pow10" with
  | none=>rw [hg] at h;cases h
  | some g =>
   rw [hg] at h
   simp only [Option.bind_some] at h ⊢
   have hlt:g < w.heap.size:=by
    rcases Nat.lt_or_ge g w.heap.size with h1|h1
    ·exact h1
    ·rw [Array.getElem?_eq_none h1] at h;cases h
   rw [hb.block g hlt];exact h
def toldBy (nums:List Nat) (n:Nm):Bool:=decide (n=nM∨n ∈ nums.map seg)
def untold (nums:List Nat) (l:List Nm):List Nm:=l.filter fun n => !toldBy nums n
structure TellsN (D:DataW Nat) (nums:List Nat):Prop where
 map:Maps.IsMap D
 has:∀ x,Maps.has D (.string x)=toldBy nums x
theorem tellsN_first:TellsN ((DataW.map ([]:List (Lit × DataW Nat))).put (.string nM) (.lit (.int .i64 0))) []:=by
 refine ⟨Maps.isMap_empty.put _ _,fun x=>?_⟩
 unfold toldBy
 by_cases h:x=nM
 ·subst h
  rw [Maps.has_put_same (k := .string nM) Maps.isMap_empty trivial];simp
 ·rw [Maps.has_put_other (by simpa using h)]
  simp [h];rfl
theorem TellsN.more {D:DataW Nat} {nums:List Nat} (h:TellsN D nums) (i:Nat) (d:DataW Nat):TellsN (D.put (.string (seg i)) d) (nums++[i]):=by
 refine ⟨h.map.put _ _,fun x=>?_⟩
 by_cases hx:x=seg i
 ·subst hx
  rw [Maps.has_put_same (k := .string (seg i)) h.map trivial]
  unfold toldBy;simp
 ·rw [Maps.has_put_other (by simpa using hx),h.has]
  unfold toldBy
  simp [hx]
def inM:Value→Option (DataW Nat × List MemPlace)
 | .int .i64 a=>some (.lit (.int .i64 a),[])
 | _=>none
theorem inM_int (a:Int):inM (.int .i64 a)=some (.lit (.int .i64 a),[]):=rfl
theorem inM_inv {v:Value} {z:DataW Nat × List MemPlace} (h:inM v=some z):∃ a,v = .int .i64 a:=by
 unfold inM at h
 split at h
 ·exact ⟨_,rfl⟩
 ·cases h
theorem str_info:(Tryz.prog.info? 9).map (fun i=>(i.zero,i.size,i.bytes))=some (some (.string ⟨#[]⟩),1,16):=by kernel_rfl
def strCells (ns:List Nm):List Value:=ns.map encStr
theorem strs_of_own {base n:Nat} {v:Value} {ns:List Nm} (h:w.ownsRow base 9 1 v n (strCells ns)):∃ a c,v = .slice a n c∧n=ns.length∧Strs w a ns∧∀ q,a=some q→base≤q.block:=by
 have hl:=h.1
 unfold strCells at hl
 rw [List.length_map] at hl
 have hln:n=ns.length:=by omega
 rcases h.2 with ⟨h1,h2⟩|⟨g,cap,cur,rfl,h2,h3,h4,h5,h6,h7⟩
 ·exact ⟨none,0,by rw [h1,h2],hln,fun h0=>by omega,fun q hq=>by cases hq⟩
 ·refine ⟨_,cap,rfl,hln,fun h0=>⟨g,0,rfl,(h.lt g rfl).2,fun i hi=>?_⟩,fun q hq=>by injection hq with hq;subst hq;exact h2⟩
  have:=h.cellAt i (show i < n * 1 by omega)
  rw [Nat.zero_add,this]
  unfold strCells
  simp [hi]
theorem untold_snoc (nums:List Nat) (l:List Nm) (k:Nat) (h:k < l.length):untold nums (l.take (k+1))=untold nums (l.take k)++if toldBy nums l[k] then [] else [l[k]]:=by
 unfold untold
 rw [List.take_succ_eq_append_getElem h,List.filter_append]
 congr 1
 cases hq:toldBy nums l[k] <;> simp [hq]
theorem untold_length (nums:List Nat) (l:List Nm):(untold nums l).length≤l.length:=List.length_filter_le _ _
theorem deleteUntold_any (h:Dsk w p S F) {g c:Nat} {nums:List Nat} (hm:Nms w g 0 c nums) (hc:∀ i ∈ nums,i≤4294967295∧Can w i) (hnl:nums.length≤100000) (hsz:∀ x ∈ S.files,x.1.length≤1000000) (base:Nat) (begun:Bool) :
  Calls Tryz.prog 26 #[.pointer (some ⟨p,0,none⟩),manV g 0 nums.length c base begun] w (After w p F (run (goneN (untold nums (S.files.map (·.1)))) S)):=by
 obtain ⟨i0,hi0,hz0,hz1,hz2⟩:=info_parts str_info
 obtain ⟨names,hnm⟩:∃ names,names=S.files.map (·.1):=⟨_,rfl⟩
 have hnl2:names.length=S.files.length:=by rw [hnm];exact List.length_map _
 rw [← hnm]
 have HNN:=Lib.hid (And.intro hnm hnl2)
 obtain ⟨R,hRR⟩:∃ R,R=run (goneN (untold nums names)) S:=⟨_,rfl⟩
 rw [← hRR]
 have HRR:=Lib.hid hRR
 have HNS:=Lib.hid (show ∀ n ∈ names,n.length≤1000000 from fun n hn=>by rw [hnm] at hn;obtain ⟨x,hx,rfl⟩:=List.mem_map.1 hn;exact hsz x hx)
 clear hnm hnl2 hRR
 have hlt:=h.lt
 have hmm := @run_makeMap Tryz.prog
 have hb0:=(Below.refl _ w).alloc (Nat.le_refl _) (.cells #[.slice (some ⟨g,0,none⟩) nums.length c,.int .i64 (base:Int),.bool begun] 67)
 obtain ⟨W0,hW0⟩:∃ W,W=w.alloc (.cells #[.slice (some ⟨g,0,none⟩) nums.length c,.int .i64 (base:Int),.bool begun] 67):=⟨_,rfl⟩
 have hs0:W0.heap.size=w.heap.size+1:=by rw [hW0];simp
 have hbx:Disk.Blk W0 w.heap.size 67 #[.slice (some ⟨g,0,none⟩) nums.length c,.int .i64 (base:Int),.bool begun]:=hW0 ▸ Disk.Blk.new _ _ _
 rw [← hW0] at hb0
 have hmade:=World.ownsMap_made W0 Tryz.prog 9 inM
 obtain ⟨W1,hrun,hm1,hg1⟩:=hmade.update (t:=109) (e:=3) Disk.law Tryz.underlying109 (by unfold maxLen;omega) (WideMaps.keyOf_string_mk Tryz.underlying9 (s:=⟨#[109]⟩) (by decide)) (inM_int 0)
 have hbm:Below W0.heap.size W0 W1:=((Below.refl _ W0).alloc (Nat.le_refl _) (.map #[] 0)).grown hg1 (by simp) (fun k hk=>by injection hk with hk;omega)
 have hs1:W0.heap.size+1≤W1.heap.size:=by have:=hg1.size;simp at this;omega
 rw [hs0] at hrun hm1 hbm hs1
 have ht1:TellsN _ _:=tellsN_first
 have hl0:W1.cell? ⟨w.heap.size,0,none⟩=some (.slice (some ⟨g,0,none⟩) nums.length c):=(hbm.cell (p:=⟨w.heap.size,0,none⟩) (by show w.heap.size < _;omega)).trans (hbx.cell 0)
 rw [hW0] at hrun
 have HB1:=Lib.hid (hb0.trans (hbm.mono (by omega)))
 have HM1:=Lib.hid (And.intro hm1 ht1)
 have H0:=Lib.hid h
 have HC:=Lib.hid hc
 have HNM:=Lib.hid hm
 have HSZ:=Lib.hid hsz
 have HLT:=Lib.hid hlt
 have HS1:=Lib.hid hs1
 clear hb0 hW0 hs0 hbx hmade hm1 hg1 hbm ht1 h hc hm hsz hlt hs1
 unfold manV
 go_enter Tryz.func26,Tryz.ntmps26
 go_wp2_with fail
 go_loopw [18] (fun i wr=>∃ (k:Nat) (D:DataW Nat),k≤nums.length∧i = .int .i64 (k:Int)∧wr.ownsMap Tryz.prog 9 inM (w.heap.size+1) (k+1) D∧TellsN D (nums.take k)∧Below w.heap.size w wr∧w.heap.size+2≤wr.heap.size) (fun i _=>nums.length - (intOf i).toNat)
 case atStart=>exact ⟨0,_,Nat.zero_le _,rfl,HM1.out.1,HM1.out.2,HB1.out,HS1.out⟩
 case round =>
  obtain ⟨k,D,hk,rfl,hmp,htl,hb,hsz⟩:=hrel
  by_cases hlt:k < nums.length
  ·have hcell:wr.cell? ⟨g,k,none⟩=some (.int .i64 (nums[k]:Int)):=by
    have h1:=(HNM.out.below hb).cell k hlt
    rw [Nat.zero_add] at h1
    exact h1
   obtain ⟨hi1,hi2⟩:=HC.out nums[k] (List.getElem_mem hlt)
   have c1:=segmentFile_any (w:=wr) nums[k] hi1 (hi2.below hb)
   have HMP:=Lib.hid (And.intro hmp (And.intro htl (And.intro hb hsz)))
   clear hmp htl hb hsz hi2
   go_wp2_with fail
   refine c1.mono ?_
   rintro e w1 ⟨rfl,hb1⟩
   have hmp1:=Disk.ownsMap_but HMP.out.1 (But.of_new hb1 (S:=fun _=>False)) (fun h=>h)
   have HB2:=Lib.hid (And.intro hmp1 (And.intro (HMP.out.2.2.1.trans (hb1.mono HMP.out.2.2.1.size)) (show w.heap.size+2≤w1.heap.size from Nat.le_trans HMP.out.2.2.2 hb1.size)))
   clear c1 hmp1 hb1
   go_wp2_with (first|(at_mapUpdate;refine wpList_mapUpdate_own _ rfl _ _ _ 109 rfl 9 3 Disk.law Tryz.underlying109 _ (w.heap.size+1) (k+1) _ rfl HB2.out.1 (by unfold maxLen;omega) _ _ _ rfl rfl (WideMaps.keyOf_string_mk Tryz.underlying9 (segB_size _ hi1)) _ [] (inM_int _) ?_;intro w2 hm2 hg2))
   have htk:TellsN (D.put (.string (segB nums[k]).data.toList) (.lit (.int .i64 (nums[k]:Int)))) (nums.take (k+1)):=by
    rw [List.take_succ_eq_append_getElem hlt]
    exact HMP.out.2.1.more nums[k] _
   have HB3:=Lib.hid (And.intro hm2 (And.intro htk (And.intro (HB2.out.2.1.grown hg2 (by have:=HB2.out.2.2;omega) (fun j hj=>by injection hj with hj;omega)) (Nat.le_trans HB2.out.2.2 hg2.size))))
   clear hm2 hg2 htk hcell
   go_wp2_with fail
   go_roundw
   case rel=>exact ⟨k+1,_,by omega,by go_num,HB3.out.1,HB3.out.2.1,HB3.out.2.2.1,HB3.out.2.2.2⟩
   case measure=>simp [intOf];omega
  ·have hkl:k=nums.length:=by omega
   have hall:nums.take k=nums:=List.take_of_length_le (by omega)
   rw [hall] at htl
   subst hkl
   clear hall hlt hk hl0 hrun hmm
   have hD:=H0.out.below hb
   have c1:=dsk_list hD
   rw [← HNN.out.1,← HNN.out.2] at c1
   have HMP:=Lib.hid (And.intro hmp (And.intro htl (And.intro hb hsz)))
   have hmany:names.length≤1000:=by rw [HNN.out.2];exact H0.out.2.many
   obtain ⟨n1,hn1⟩:∃ n1,n1=names.length:=⟨_,rfl⟩
   clear hmp htl hb hsz hD
   obtain ⟨wo,hwo⟩:∃ wo:World,wo=wr:=⟨_,rfl⟩
   subst hwo
   go_wp2_with fail
   refine c1.mono ?_
   rintro e w1 ⟨v,rfl,ho,hb1⟩
   obtain ⟨a1,cp1,rfl,-,hst,hab⟩:=strs_of_own ho
   have hmp1:=Disk.ownsMap_but HMP.out.1 (But.of_new hb1 (S:=fun _=>False)) (fun h=>h)
   have HM1:=Lib.hid (And.intro hmp1 (And.intro hst hab))
   have HB1:=Lib.hid (HMP.out.2.2.1.trans (hb1.mono HMP.out.2.2.1.size))
   have HZ1:=Lib.hid (show wo.heap.size≤w1.heap.size from hb1.size)
   clear c1 ho hb1 hmp1 hst hab
   go_wp2_with fail
   go_loopw [8,30] (fun v i wr=>∃ (k:Nat) (va:Option Addr) (n vc:Nat),k≤names.length∧i = .int .i64 (k:Int)∧v = .slice va n vc∧n=(untold nums (names.take k)).length∧wr.ownsRow w1.heap.size 9 1 (.slice va n vc) n (strCells (untold nums (names.take k)))∧Below w1.heap.size w1 wr) (fun _ i _=>names.length - (intOf i).toNat)
   case atStart=>exact ⟨0,none,0,0,Nat.zero_le _,rfl,rfl,rfl,World.ownsRow_nil _ _ _ _,Below.refl _ _⟩
   case round =>
    obtain ⟨k,va,n,vc,hk,rfl,rfl,hn,ho,hb⟩:=hrel
    by_cases hlt:k < names.length
    ·obtain ⟨b1,off1,rfl,hbl1,hcl1⟩:=HM1.out.2.1 (by omega)
     have hcell:wr.cell? ⟨b1,off1+k,none⟩=some (.string ⟨names[k].toArray⟩):=(hb.cell (p:=⟨b1,off1+k,none⟩) hbl1).trans (hcl1 k hlt)
     have hmp2:=Disk.ownsMap_but HM1.out.1 (But.of_new hb (S:=fun _=>False)) (fun h=>h)
     have hks:(⟨names[k].toArray⟩:ByteArray).size≤maxLen:=by
      have h1:=HNS.out names[k] (List.getElem_mem hlt)
      show names[k].toArray.size≤maxLen
      unfold maxLen
      simp;omega
     obtain ⟨vl,ps,hlook,hvl⟩:=hmp2.look_ok Disk.law Tryz.underlying109 (show (zeroValue 3).run Tryz.prog wr = .ok (.int .i64 0) wr by kernel_rfl) (zd := .lit (.int .i64 0)) (zp:=[]) rfl (WideMaps.keyOf_string_mk Tryz.underlying9 hks)
     rw [HMP.out.2.1.has] at hlook
     obtain ⟨iv,rfl⟩:=inM_inv hvl
     have hus:=untold_snoc nums names k hlt
     have e1:((⟨names[k].toArray⟩:ByteArray).data.toList)=names[k]:=by simp
     rw [e1] at hlook
     have HO:=Lib.hid (And.intro hn (And.intro ho hb))
     clear hcl1 hmp2 hvl hks e1 ho hb hn
     cases htd:toldBy nums names[k]
     ·rw [htd] at hlook hus
      have HUS:=Lib.hid hus
      have hnle:n≤1000:=by
       have h1:=untold_length nums (names.take k)
       have h2:=HO.out.1
       rw [List.length_take] at h1
       omega
      clear htd hus
      go_wp2_with (at_builtin;refine wpList_append_onto rfl _ _ 110 rfl w1.heap.size 9 i0 _ 1 16 Tryz.underlying110 hi0 hz0 hz1 hz2 rfl (by omega) (.slice va n vc) n (strCells (untold nums (names.take k))) rfl (ownsRow_alloc HO.out.2.1 _) _ 1 [.string ⟨names[k].toArray⟩] rfl (sees_one _ _ _ _) (by intro u hu;rw [List.mem_singleton.1 hu];rfl) (by unfold maxLen;omega) (by omega) (by have:=HO.out.2.2.size;simp;omega) ?_;intro v3 w3 ho3 hon3)
      have hun:untold nums (names.take (k+1))=untold nums (names.take k)++[names[k]]:=HUS.out
      have hsc:strCells (untold nums (names.take k))++[.string ⟨names[k].toArray⟩]=strCells (untold nums (names.take (k+1))):=by rw [hun];unfold strCells;rw [List.map_append];rfl
      rw [hsc] at ho3
      have hb3:Below w1.heap.size w1 w3:=HO.out.2.2.trans (((Below.refl w1.heap.size wr).alloc HO.out.2.2.size _).trans (hon3.but.below (by have:=HO.out.2.2.size;simp;omega) (fun j hj=>(HO.out.2.1.lt j hj.symm).1)))
      obtain ⟨a3,c3,rfl,hn3,-,-⟩:=strs_of_own ho3
      have HO3:=Lib.hid (And.intro ho3 (And.intro hb3 hn3))
      clear ho3 hon3 hsc hun hb3 hn3 hcell hlook
      go_wp2_with fail
      go_roundw
      case rel=>exact ⟨k+1,a3,_,c3,by omega,by go_num,rfl,HO3.out.2.2,HO3.out.1,HO3.out.2.1⟩
      case measure=>simp [intOf];omega
     ·rw [htd] at hlook hus
      have HUS:=Lib.hid hus
      clear htd hus
      go_wp2_with fail
      go_roundw
      case rel=>exact ⟨k+1,va,n,vc,by omega,by go_num,rfl,by rw [HUS.out];simpa using HO.out.1,by rw [HUS.out];simpa using HO.out.2.1,HO.out.2.2⟩
      case measure=>simp [intOf];omega
    ·have hkl:k=names.length:=by omega
     have hall:names.take k=names:=List.take_of_length_le (by omega)
     rw [hall] at hn ho
     obtain ⟨a3,c3,hv3,hn3,hst3,hab3⟩:=strs_of_own ho
     obtain ⟨rfl,-,rfl⟩:va=a3∧n=n∧vc=c3:=by injection hv3 with q1 q2 q3;exact ⟨q1,rfl,q3⟩
     have hD3:Dsk wr p S F:=(H0.out.below HB1.out).below hb
     have c3:=deleteAll_any hD3 va vc (untold nums names) hst3 (fun q hq _ hF=>by have h1:=hab3 q hq;have h2:=HLT.out _ hF;have h3:=HB1.out.size;omega) (fun m hm=>by have:=HNS.out m (List.mem_filter.1 hm).1;unfold maxLen;omega) (by have:=untold_length nums names;omega)
     rw [← hn,← HRR.out] at c3
     have HBR:=Lib.hid (HB1.out.trans (hb.mono HB1.out.size))
     subst hkl
     clear hn ho hall hv3 hn3 hst3 hab3 hD3 hb hlt hk
     go_wp2_with fail
     refine c3.mono ?_
     rintro e w2 h2
     obtain ⟨rfl,h3⟩:=After.after HBR.out h2
     go_wp2
     go_ret
     exact ⟨rfl,h3⟩
end
end Go.Proofs.YtbhoknnjilidnaaGreatDoor.Seg
end
section
namespace Go.Proofs.YtbhoknnjilidnaaGreatDoor.Seg
open Go.Proofs.YtbhoknnjilidnaaGreatDoor.Mem
open Go.Proofs.YtbhoknnjilidnaaGreatDoor.Disk (Nm File St Eff Has grow errV used lenOf run)
open Go.Proofs.YtbhoknnjilidnaaGreatDoor.Rec (Rcd Recs Is)
open Go.Proofs.YtbhoknnjilidnaaGreatDoor.Torn (Gp Pc gcells gpl gpl_snoc gpl_get Pcs)
open Go.ChangeShapes Go.WideShapes Go.ChangeAt Go.RowKit
structure Sp where
 seg:Nat
 at_:Nat
 len:Nat
def spc (s:Sp):List Value:=[.int .i64 (s.seg:Int),.int .i64 (s.at_:Int),.int .i64 (s.len:Int)]
def spl (ss:List Sp):List Value:=ss.flatMap spc
theorem spl_cons (s:Sp) (ss:List Sp):spl (s :: ss)=spc s++spl ss:=rfl
theorem spl_length (ss:List Sp):(spl ss).length=ss.length * 3:=by
 induction ss with
 | nil=>rfl
 | cons g gs ih=>rw [spl_cons,List.length_append,ih,List.length_cons];simp [spc];omega
theorem spl_snoc (ss:List Sp) (s:Sp):spl (ss++[s])=spl ss++spc s:=by
 unfold spl
 rw [List.flatMap_append]
 simp
theorem spl_get (ss:List Sp) (i j:Nat) (hi:i < ss.length) (hj:j < 3):(spl ss)[i * 3+j]?=(spc ss[i])[j]?:=by
 induction ss generalizing i with
 | nil=>simp at hi
 | cons g gs ih =>
  have hl:(spc g).length=3:=by simp [spc]
  rw [spl_cons]
  rcases i with _|i
  ·rw [Nat.zero_mul,Nat.zero_add,List.getElem?_append_left (by omega)]
   simp
  ·rw [List.getElem?_append_right (by omega),hl,show (i+1) * 3+j - 3=i * 3+j by omega,ih i (by simpa using hi)]
   simp
theorem spc_one (s:Sp):∀ u ∈ spc s,u.oneCell'=true:=by
 simp [spc,Value.oneCell']
theorem spot_info:(Tryz.prog.info? 47).map (fun i=>(i.zero,i.size,i.bytes))=some (some (.agg #[.int .i64 0,.int .i64 0,.int .i64 0]),3,24):=by kernel_rfl
theorem sees_cells (w:World) (cs:Array Value) (l:List Value) (hcs:cs.toList=l) (n:Nat) (hl:l.length=n) (e:TypeId) (fr:Nat × Nat) (b:Nat) (hb:b=w.heap.size):Sees (w.alloc (.cells cs e fr)) n (.slice (some ⟨b,0,none⟩) 1 1) 1 l:=by
 subst hb
 refine .inr ⟨_,_,rfl,by rw [hl,Nat.one_mul],fun j x hx=>?_⟩
 refine ⟨by simp,?_⟩
 rw [add_none,Nat.zero_add,World.cell?_alloc_mark]
 rw [← hcs] at hx
 simpa using hx
theorem own_ne {w:World} {base base':Nat} {e e':TypeId} {size size' n n':Nat} {v v':Value} {xs xs':List Value} (h:w.ownsRow base e size v n xs) (h':w.ownsRow base' e' size' v' n' xs') (hne:e≠e') (k:Nat) (hk:v'.ownBlock=some k):v.ownBlock≠some k:=by
 rcases h'.2 with ⟨h1,_⟩|⟨g,cap,cur,h1,_,h3,_⟩
 ·rw [h1] at hk;cases hk
 ·rw [h1] at hk
  have hg:g=k:=by simpa [Value.ownBlock] using hk
  subst hg
  exact Disk.own_blk_ne h (show Disk.Blk w g e' cur from h3) hne
section
variable {w wr w1 w2 w3:World} {F F1:Nat→Prop} {vp vs vz v':Value} {gs gs2:List Gp} {ss:List Sp} {zs:List Nat} {a2:Option Addr} {x:Nat}
def Away (w wr:World) (F1:Nat→Prop) (vp vs vz:Value) (x:Nat):Prop:=w.heap.size≤x∧x < wr.heap.size∧¬ F1 x∧vp.ownBlock≠some x∧vs.ownBlock≠some x∧vz.ownBlock≠some x
def RecsAway (w wr:World) (F1:Nat→Prop) (vp vs vz:Value) (gs:List Gp):Prop:=∀ g ∈ gs,Recs wr g.a g.p.l∧∀ x,g.a=some x→Away w wr F1 vp vs vz x.block
structure ScR (w wr:World) (F1:Nat→Prop) (vp vs vz:Value) (gs:List Gp) (ss:List Sp) (zs:List Nat):Prop where
 pieces:wr.ownsRow w.heap.size 103 3 vp gs.length (gpl gs)
 recs:RecsAway w wr F1 vp vs vz gs
 spots:wr.ownsRow w.heap.size 47 3 vs ss.length (spl ss)
 sizes:wr.ownsRow w.heap.size 3 1 vz zs.length (intCells zs)
 free:∀ k,vp.ownBlock=some k∨vs.ownBlock=some k∨vz.ownBlock=some k→¬ F1 k
 lt:∀ k,F1 k→k < wr.heap.size
 size:w.heap.size≤wr.heap.size
theorem RecsAway.step {vp' vs' vz':Value} {F2:Nat→Prop} {T:Nat→Prop} (h:RecsAway w wr F1 vp vs vz gs) (hb:But T wr w1) (hT:∀ x,Away w wr F1 vp vs vz x→¬ T x) (hA:∀ x,Away w wr F1 vp vs vz x→Away w w1 F2 vp' vs' vz' x):RecsAway w w1 F2 vp' vs' vz' gs :=
 fun g hg=>⟨(h g hg).1.but hb (fun x hx=>hT _ ((h g hg).2 x hx)),fun x hx=>hA _ ((h g hg).2 x hx)⟩
theorem Away.below (h:Away w wr F1 vp vs vz x) (hb:Below wr.heap.size wr w1):Away w w1 F1 vp vs vz x:=⟨h.1,Nat.lt_of_lt_of_le h.2.1 hb.size,h.2.2⟩
theorem ScR.below (h:ScR w wr F1 vp vs vz gs ss zs) (hb:Below wr.heap.size wr w1):ScR w w1 F1 vp vs vz gs ss zs where
 pieces:=ownsRow_but h.pieces (But.of_new hb (S:=fun _=>False)) (fun _ _ e=>e)
 recs:=h.recs.step (But.of_new hb (S:=fun _=>False)) (fun _ _ e=>e) (fun x hx=>hx.below hb)
 spots:=ownsRow_but h.spots (But.of_new hb (S:=fun _=>False)) (fun _ _ e=>e)
 sizes:=ownsRow_but h.sizes (But.of_new hb (S:=fun _=>False)) (fun _ _ e=>e)
 free:=h.free
 lt:=fun k hk=>Nat.lt_of_lt_of_le (h.lt k hk) hb.size
 size:=Nat.le_trans h.size hb.size
theorem Away.disk (h:Away w wr F1 vp vs vz x) (hb:But F1 wr w1):Away w w1 (grow F1 wr w1) vp vs vz x:=⟨h.1,Nat.lt_of_lt_of_le h.2.1 hb.size,not_grow h.2.2.1 h.2.1,h.2.2.2⟩
theorem ScR.disk (h:ScR w wr F1 vp vs vz gs ss zs) (hb:But F1 wr w1):ScR w w1 (grow F1 wr w1) vp vs vz gs ss zs where
 pieces:=ownsRow_but h.pieces hb (fun k hk=>h.free k (.inl hk))
 recs:=h.recs.step hb (fun x hx=>hx.2.2.1) (fun x hx=>hx.disk hb)
 spots:=ownsRow_but h.spots hb (fun k hk=>h.free k (.inr (.inl hk)))
 sizes:=ownsRow_but h.sizes hb (fun k hk=>h.free k (.inr (.inr hk)))
 free:=fun k hk=>not_grow (h.free k hk) (by
  rcases hk with hk|hk|hk
  ·exact (h.pieces.lt k hk).2
  ·exact (h.spots.lt k hk).2
  ·exact (h.sizes.lt k hk).2)
 lt:=fun k hk=>by
  rcases hk with hk|hk
  ·exact Nat.lt_of_lt_of_le (h.lt k hk) hb.size
  ·exact hk.2
 size:=Nat.le_trans h.size hb.size
theorem ScR.but {T:Nat→Prop} (h:ScR w wr F1 vp vs vz gs ss zs) (hb:But T wr w1) (hT:∀ k,T k→k < w.heap.size):ScR w w1 F1 vp vs vz gs ss zs where
 pieces:=ownsRow_but h.pieces hb (fun k hk ht=>by have:=(h.pieces.lt k hk).1;have:=hT k ht;omega)
 recs:=h.recs.step hb (fun x hx ht=>by have:=hx.1;have:=hT x ht;omega) (fun x hx=>⟨hx.1,Nat.lt_of_lt_of_le hx.2.1 hb.size,hx.2.2⟩)
 spots:=ownsRow_but h.spots hb (fun k hk ht=>by have:=(h.spots.lt k hk).1;have:=hT k ht;omega)
 sizes:=ownsRow_but h.sizes hb (fun k hk ht=>by have:=(h.sizes.lt k hk).1;have:=hT k ht;omega)
 free:=h.free
 lt:=fun k hk=>Nat.lt_of_lt_of_le (h.lt k hk) hb.size
 size:=Nat.le_trans h.size hb.size
theorem onto_own {k:Nat} (hon:Onto wr w1 vp v') (hk:v'.ownBlock=some k):vp.ownBlock=some k∨wr.heap.size≤k:=by
 rcases hon.own with h|h
 ·exact .inl (h ▸ hk)
 ·exact .inr (h k hk)
theorem Away.piece (h:Away w wr F1 vp vs vz x) (hon:Onto wr w1 vp v'):Away w w1 F1 v' vs vz x:=⟨h.1,Nat.lt_of_lt_of_le h.2.1 hon.grown.size,h.2.2.1,fun e=>by
 rcases onto_own hon e with h1|h1
 ·exact h.2.2.2.1 h1
 ·have:=h.2.1;omega,h.2.2.2.2⟩
theorem Away.spot (h:Away w wr F1 vp vs vz x) (hon:Onto wr w1 vs v'):Away w w1 F1 vp v' vz x:=⟨h.1,Nat.lt_of_lt_of_le h.2.1 hon.grown.size,h.2.2.1,h.2.2.2.1,fun e=>by
 rcases onto_own hon e with h1|h1
 ·exact h.2.2.2.2.1 h1
 ·have:=h.2.1;omega,h.2.2.2.2.2⟩
theorem Away.siz (h:Away w wr F1 vp vs vz x) (hon:Onto wr w1 vz v'):Away w w1 F1 vp vs v' x:=⟨h.1,Nat.lt_of_lt_of_le h.2.1 hon.grown.size,h.2.2.1,h.2.2.2.1,h.2.2.2.2.1,fun e=>by
 rcases onto_own hon e with h1|h1
 ·exact h.2.2.2.2.2 h1
 ·have:=h.2.1;omega⟩
theorem ScR.piece (h:ScR w wr F1 vp vs vz gs ss zs) {g:Gp} (hg:Recs wr g.a g.p.l∧∀ x,g.a=some x→Away w wr F1 vp vs vz x.block) (ho:w1.ownsRow w.heap.size 103 3 v' (gs.length+1) (gpl gs++gcells g)) (hon:Onto wr w1 vp v'):ScR w w1 F1 v' vs vz (gs++[g]) ss zs where
 pieces:=by rw [gpl_snoc,List.length_append];exact ho
 recs:=by
  have h1:RecsAway w wr F1 vp vs vz (gs++[g]):=fun y hy=>by
   rcases List.mem_append.1 hy with hy|hy
   ·exact h.recs y hy
   ·rw [List.mem_singleton.1 hy];exact hg
  exact h1.step hon.but (fun x hx e=>hx.2.2.2.1 e.symm) (fun x hx=>hx.piece hon)
 spots:=ownsRow_but h.spots hon.but (fun k hk e=>own_ne h.pieces h.spots (by decide) k hk e.symm)
 sizes:=ownsRow_but h.sizes hon.but (fun k hk e=>own_ne h.pieces h.sizes (by decide) k hk e.symm)
 free:=fun k hk hF=>by
  rcases hk with hk|hk|hk
  ·rcases onto_own hon hk with h1|h1
   ·exact h.free k (.inl h1) hF
   ·have:=h.lt k hF;omega
  ·exact h.free k (.inr (.inl hk)) hF
  ·exact h.free k (.inr (.inr hk)) hF
 lt:=fun k hk=>Nat.lt_of_lt_of_le (h.lt k hk) hon.grown.size
 size:=Nat.le_trans h.size hon.grown.size
theorem ScR.spot (h:ScR w wr F1 vp vs vz gs ss zs) {s:Sp} (ho:w1.ownsRow w.heap.size 47 3 v' (ss.length+1) (spl ss++spc s)) (hon:Onto wr w1 vs v'):ScR w w1 F1 vp v' vz gs (ss++[s]) zs where
 pieces:=ownsRow_but h.pieces hon.but (fun k hk e=>own_ne h.spots h.pieces (by decide) k hk e.symm)
 recs:=h.recs.step hon.but (fun x hx e=>hx.2.2.2.2.1 e.symm) (fun x hx=>hx.spot hon)
 spots:=by rw [spl_snoc,List.length_append];exact ho
 sizes:=ownsRow_but h.sizes hon.but (fun k hk e=>own_ne h.spots h.sizes (by decide) k hk e.symm)
 free:=fun k hk hF=>by
  rcases hk with hk|hk|hk
  ·exact h.free k (.inl hk) hF
  ·rcases onto_own hon hk with h1|h1
   ·exact h.free k (.inr (.inl h1)) hF
   ·have:=h.lt k hF;omega
  ·exact h.free k (.inr (.inr hk)) hF
 lt:=fun k hk=>Nat.lt_of_lt_of_le (h.lt k hk) hon.grown.size
 size:=Nat.le_trans h.size hon.grown.size
theorem ScR.siz (h:ScR w wr F1 vp vs vz gs ss zs) {n:Nat} (ho:w1.ownsRow w.heap.size 3 1 v' (zs.length+1) (intCells (zs++[n]))) (hon:Onto wr w1 vz v'):ScR w w1 F1 vp vs v' gs ss (zs++[n]) where
 pieces:=ownsRow_but h.pieces hon.but (fun k hk e=>own_ne h.sizes h.pieces (by decide) k hk e.symm)
 recs:=h.recs.step hon.but (fun x hx e=>hx.2.2.2.2.2 e.symm) (fun x hx=>hx.siz hon)
 spots:=ownsRow_but h.spots hon.but (fun k hk e=>own_ne h.sizes h.spots (by decide) k hk e.symm)
 sizes:=by rw [List.length_append];exact ho
 free:=fun k hk hF=>by
  rcases hk with hk|hk|hk
  ·exact h.free k (.inl hk) hF
  ·exact h.free k (.inr (.inl hk)) hF
  ·rcases onto_own hon hk with h1|h1
   ·exact h.free k (.inr (.inr h1)) hF
   ·have:=h.lt k hF;omega
 lt:=fun k hk=>Nat.lt_of_lt_of_le (h.lt k hk) hon.grown.size
 size:=Nat.le_trans h.size hon.grown.size
structure InR (w wr:World) (F1:Nat→Prop) (vp vs vz:Value) (gs:List Gp) (ss:List Sp) (zs:List Nat) (a2:Option Addr) (gs2:List Gp):Prop where
 sc:ScR w wr F1 vp vs vz gs ss zs
 src:Pcs wr a2 gs2
 awayA:0 < gs2.length→∀ x,a2=some x→Away w wr F1 vp vs vz x.block
 awayG:RecsAway w wr F1 vp vs vz gs2
theorem pcs_but {T:Nat→Prop} (h:Pcs wr a2 gs2) (hb:But T wr w1) (h1:0 < gs2.length→∀ x,a2=some x→¬ T x.block) (h2:∀ g ∈ gs2,∀ x,g.a=some x→¬ T x.block):Pcs w1 a2 gs2:=by
 refine ⟨fun g hg=>(h.1 g hg).but hb (h2 g hg),fun hn=>?_⟩
 obtain ⟨b,off,rfl,hlt,hc⟩:=h.2 hn
 exact ⟨b,off,rfl,Nat.lt_of_lt_of_le hlt hb.size,fun i hi j u hu=>(hb.cell (p:=⟨b,off+i * 3+j,none⟩) hlt (show ¬ T b from h1 hn ⟨b,off,none⟩ rfl)).trans (hc i hi j u hu)⟩
theorem InR.below (h:InR w wr F1 vp vs vz gs ss zs a2 gs2) (hb:Below wr.heap.size wr w1):InR w w1 F1 vp vs vz gs ss zs a2 gs2 :=
 ⟨h.sc.below hb,h.src.below hb,fun h0 x hx=>(h.awayA h0 x hx).below hb,h.awayG.step (But.of_new hb (S:=fun _=>False)) (fun _ _ e=>e) (fun x hx=>hx.below hb)⟩
theorem InR.piece (h:InR w wr F1 vp vs vz gs ss zs a2 gs2) {g:Gp} (hg:g ∈ gs2) (ho:w1.ownsRow w.heap.size 103 3 v' (gs.length+1) (gpl gs++gcells g)) (hon:Onto wr w1 vp v'):InR w w1 F1 v' vs vz (gs++[g]) ss zs a2 gs2 :=
 ⟨h.sc.piece (h.awayG g hg) ho hon,pcs_but h.src hon.but (fun h0 x hx e=>(h.awayA h0 x hx).2.2.2.1 e.symm) (fun g hg x hx e=>((h.awayG g hg).2 x hx).2.2.2.1 e.symm),fun h0 x hx=>(h.awayA h0 x hx).piece hon,h.awayG.step hon.but (fun x hx e=>hx.2.2.2.1 e.symm) (fun x hx=>hx.piece hon)⟩
theorem InR.spot (h:InR w wr F1 vp vs vz gs ss zs a2 gs2) {s:Sp} (ho:w1.ownsRow w.heap.size 47 3 v' (ss.length+1) (spl ss++spc s)) (hon:Onto wr w1 vs v'):InR w w1 F1 vp v' vz gs (ss++[s]) zs a2 gs2 :=
 ⟨h.sc.spot ho hon,pcs_but h.src hon.but (fun h0 x hx e=>(h.awayA h0 x hx).2.2.2.2.1 e.symm) (fun g hg x hx e=>((h.awayG g hg).2 x hx).2.2.2.2.1 e.symm),fun h0 x hx=>(h.awayA h0 x hx).spot hon,h.awayG.step hon.but (fun x hx e=>hx.2.2.2.2.1 e.symm) (fun x hx=>hx.spot hon)⟩
theorem InR.disk (h:InR w wr F1 vp vs vz gs ss zs a2 gs2) (hb:But F1 wr w1):InR w w1 (grow F1 wr w1) vp vs vz gs ss zs a2 gs2 :=
 ⟨h.sc.disk hb,pcs_but h.src hb (fun h0 x hx=>(h.awayA h0 x hx).2.2.1) (fun g hg x hx=>((h.awayG g hg).2 x hx).2.2.1),fun h0 x hx=>(h.awayA h0 x hx).disk hb,h.awayG.step hb (fun x hx=>hx.2.2.1) (fun x hx=>hx.disk hb)⟩
end
end Go.Proofs.YtbhoknnjilidnaaGreatDoor.Seg
end

/- Contract: a manifest as bytes. Contract: a manifest is made the disk's. Contract: a manifest's segments, of any text. -/
import Derived.Test.YtbhoknnjilidnaaGreatDoorG28
import Derived.Test.YtbhoknnjilidnaaGreatDoorG04
import Derived.Lib.ConvBytes
set_option linter.unusedSimpArgs false
set_option linter.unusedVariables false
set_option maxHeartbeats 4000000
set_option maxRecDepth 100000
section
namespace Go.Proofs.YtbhoknnjilidnaaGreatDoor.Seg
open Go.Proofs.YtbhoknnjilidnaaGreatDoor.Mem
open Go.Proofs.YtbhoknnjilidnaaGreatDoor.Disk (Nm File St Eff Has grow errV used lenOf run)
open Go.Proofs (encStr)
open Go.ChangeShapes Go.WideShapes Go.ChangeAt Go.RowKit
section
variable {w w1 w2:World} {p:Nat} {S:St} {F:Nat→Prop}
def flat (nums:List Nat):List Int:=nums.flatMap fun i=>Pack.put i 4
theorem flat_snoc {nums:List Nat} {k:Nat} (h:k < nums.length):flat (nums.take (k+1))=flat (nums.take k)++Pack.put nums[k] 4:=by
 unfold flat
 rw [List.take_succ_eq_append_getElem h,List.flatMap_append]
 simp
theorem flat_bytes (nums:List Nat):Bytes (flat nums):=flat4_bytes nums
theorem flat_length (nums:List Nat):(flat nums).length=4 * nums.length:=flat4 nums
theorem strOf_size {zs:List Int} (h:Bytes zs):(strOfNums zs).size=zs.length:=by
 rw [← strBytes_length,strBytes_strOf h]
theorem u64_in {n:Nat} (h:n < 4294967296):IntKind.u64.wrap (n:Int)=(n:Int):=by rw [IntKind.wrap_u64];omega
theorem manBody_eq (nums:List Nat) (base:Nat) (begun:Bool):[]++Pack.put (flat nums).length 2++flat nums++Pack.put base 4++Pack.put (if begun then 1 else 0) 1=manBody nums base begun:=by
 unfold manBody
 rw [flat_length]
 cases begun <;> rfl
theorem body_any {g off c:Nat} {nums:List Nat} (h:Nms w g off c nums) (hl:nums.length≤16000) (hi:∀ i ∈ nums,i < 4294967296) (base:Nat) (hb:base < 4294967296) (begun:Bool) :
  Calls Tryz.prog 81 #[manV g off nums.length c base begun] w fun e w'=>∃ v,e = .returned v∧w'.ownsRow w.heap.size 5 1 v (7+4 * nums.length) (cellsOf (manBody nums base begun))∧Below w.heap.size w w':=by
 have HN:=Lib.hid h
 have HI:=Lib.hid hi
 have hgl:=h.lt
 have eb:=u64_in hb
 have hbx:Disk.Blk (w.alloc (.cells #[.slice (some ⟨g,off,none⟩) nums.length c,.int .i64 (base:Int),.bool begun] 67)) w.heap.size 67 #[.slice (some ⟨g,off,none⟩) nums.length c,.int .i64 (base:Int),.bool begun]:=Disk.Blk.new _ _ _
 have hbw:Below w.heap.size w (w.alloc (.cells #[.slice (some ⟨g,off,none⟩) nums.length c,.int .i64 (base:Int),.bool begun] 67)):=(Below.refl _ w).alloc (Nat.le_refl _) _
 obtain ⟨W,hW⟩:∃ W,W=w.alloc (.cells #[.slice (some ⟨g,off,none⟩) nums.length c,.int .i64 (base:Int),.bool begun] 67):=⟨_,rfl⟩
 have hWs:W.heap.size=w.heap.size+1:=by rw [hW];simp
 rw [← hW] at hbx hbw
 have HBX:=Lib.hid hbx
 have HBW:=Lib.hid hbw
 have HW:=Lib.hid hWs
 have m0:W.cell? ⟨w.heap.size,0,none⟩=some _:=hbx.cell 0
 clear h hi hbx hbw hWs
 unfold manV
 go_enter Tryz.func81,Tryz.ntmps81
 go_wp2_with fail
 rw [← hW]
 go_wp2_with fail
 go_loopw [3,11] (fun v i wr=>∃ (k:Nat) (va:Option Addr) (n vc:Nat),k≤nums.length∧i = .int .i64 (k:Int)∧v = .slice va n vc∧n=4 * k∧wr.ownsRow W.heap.size 5 1 (.slice va n vc) (4 * k) (cellsOf (flat (nums.take k)))∧Below W.heap.size W wr) (fun _ i _=>nums.length - (intOf i).toNat)
 case atStart=>exact ⟨0,none,0,0,Nat.zero_le _,rfl,rfl,rfl,World.ownsRow_nil _ _ _ _,Below.refl _ _⟩
 case round =>
  obtain ⟨k,va,n,vc,hk,rfl,rfl,hn,ho,hbl⟩:=hrel
  by_cases hlt:k < nums.length
  ·have hcell:wr.cell? ⟨g,off+k,none⟩=some (.int .i64 (nums[k]:Int)):=(hbl.cell (p:=⟨g,off+k,none⟩) (by show g < _;rw [HW.out];omega)).trans ((HBW.out.cell (p:=⟨g,off+k,none⟩) hgl).trans (HN.out.cell k hlt))
   have hnk:=HI.out nums[k] (List.getElem_mem hlt)
   have ek:=u64_in hnk
   have c1:=Pack.put_any nums[k] (by omega) 4 (by omega) (by omega) (.slice va n vc) (4 * k) (flat (nums.take k)) W.heap.size wr ho hbl.size (by omega)
   rw [← flat_snoc hlt] at c1
   have HO:=Lib.hid (And.intro ho hbl)
   clear ho hbl hnk hn
   go_wp2_with fail
   refine c1.mono ?_
   rintro e w1 ⟨v',rfl,ho',hon⟩
   obtain ⟨a2,c2,rfl,-,-,-⟩:=own_shape ho' (flat_bytes _)
   have hb1:=HO.out.2.trans (hon.below HO.out.1 HO.out.2.size)
   have HO':=Lib.hid (And.intro ho' hb1)
   clear ho' hb1 hon
   go_wp2_with fail
   go_roundw
   case rel=>exact ⟨k+1,a2,_,c2,by omega,by go_num,rfl,by omega,HO'.out.1,HO'.out.2⟩
   case measure=>simp [intOf];omega
  ·have hkl:k=nums.length:=by omega
   have hall:nums.take k=nums:=List.take_of_length_le (by omega)
   rw [hall] at ho
   obtain ⟨_,_,hv,hrow,-,-⟩:=own_shape ho (flat_bytes _)
   obtain ⟨rfl,rfl,rfl⟩:va=_∧n=_∧vc=_:=by injection hv with h1 h2 h3;exact ⟨h1,h2,h3⟩
   subst hkl
   have hs1:=run_string_row (P:=Tryz.prog) hrow 81 5 9 Tryz.underlying81 Tryz.underlying5 Tryz.underlying9 vc
   have hfs:=strOf_size (flat_bytes nums)
   have hfl:=flat_length nums
   have hcut:strOfNums (flat nums)=Pack.cut (strOfNums (flat nums)):=by
    unfold Pack.cut
    rw [if_neg (by omega)]
   have c1:=Pack.putText_any (strOfNums (flat nums)) _ hcut (.slice none 0 0) 0 [] w.heap.size wr (World.ownsRow_nil _ _ _ _) (by have:=hbl.size;have:=HW.out;omega) (by omega) (by omega)
   rw [hfs,strBytes_strOf (flat_bytes nums)] at c1
   have q1:wr.cell? ⟨w.heap.size,1,none⟩=some (.int .i64 (base:Int)):=(hbl.cell (p:=⟨w.heap.size,1,none⟩) (by show w.heap.size < _;have:=HW.out;omega)).trans (HBX.out.cell 1)
   have q2:wr.cell? ⟨w.heap.size,2,none⟩=some (.bool begun):=(hbl.cell (p:=⟨w.heap.size,2,none⟩) (by show w.heap.size < _;have:=HW.out;omega)).trans (HBX.out.cell 2)
   have HBR:=Lib.hid (HBW.out.trans (hbl.mono (by have:=HW.out;omega)))
   have HLT:=Lib.hid (show w.heap.size < wr.heap.size by have:=hbl.size;have:=HW.out;omega)
   obtain ⟨L,hL⟩:∃ L,L=(flat nums).length:=⟨_,rfl⟩
   rw [← hL] at c1 hfl
   have HL:=Lib.hid hL
   have HFL:=Lib.hid hfl
   clear hv hrow ho hbl hn hlt hk hall hcut hfs hL hfl
   have hfin:∀ (W1:World) (v:Value) (N:Nat),W1.ownsRow w.heap.size 5 1 v N (cellsOf ([]++Pack.put L 2++flat nums++Pack.put base 4++Pack.put (if begun then 1 else 0) 1))→Below w.heap.size w W1→∃ v',Ending.returned v = .returned v'∧W1.ownsRow w.heap.size 5 1 v' (7+4 * nums.length) (cellsOf (manBody nums base begun))∧Below w.heap.size w W1:=by
    intro W1 v N ho hb
    rw [HL.out,manBody_eq] at ho
    have hn:=ho.1
    rw [cellsOf_length,manBody_length] at hn
    exact ⟨v,rfl,by rw [show 7+4 * nums.length=N by omega];exact ho,hb⟩
   have HFIN:=Lib.hid hfin
   clear hfin
   cases begun
   ·go_wp2_with fail
    refine c1.mono ?_
    rintro e w1 ⟨v1,rfl,ho1,hon1⟩
    have hb1:Below wr.heap.size wr w1:=(Below.refl _ wr).grown hon1.grown (Nat.le_refl _) (fun j hj=>by cases hj)
    have q1':=(hb1.cell (p:=⟨w.heap.size,1,none⟩) HLT.out).trans q1
    have q2':=(hb1.cell (p:=⟨w.heap.size,2,none⟩) HLT.out).trans q2
    have HB1:=Lib.hid (HBR.out.trans (hb1.mono (Nat.le_of_lt HLT.out)))
    have c2:=Pack.put_any base (by omega) 4 (by omega) (by omega) v1 _ _ w.heap.size w1 ho1 HB1.out.size (by have:=HFL.out;have:=HB1;omega)
    clear q1 q2 c1 hb1 hon1 q2' HLT
    have HO1:=Lib.hid ho1
    clear ho1
    go_wp2_with fail
    refine c2.mono ?_
    rintro e w2 ⟨v2,rfl,ho2,hon2⟩
    have hb2:=hon2.below HO1.out HB1.out.size
    have HB2:=Lib.hid (HB1.out.trans hb2)
    clear hb2 hon2 c2 q1' HO1
    go_wp2_with fail
    have c3:=Pack.put_any 0 (by omega) 1 (by omega) (by omega) v2 _ _ w.heap.size w2 ho2 HB2.out.size (by have:=HFL.out;omega)
    have HOW2:=Lib.hid ho2
    clear ho2
    refine c3.mono ?_
    rintro e w3 ⟨v3,rfl,ho3,hon3⟩
    have HB3:=Lib.hid (And.intro ho3 hon3)
    clear ho3 hon3 c3
    go_wp2
    go_ret
    exact HFIN.out _ _ _ HB3.out.1 (HB2.out.trans (HB3.out.2.below HOW2.out HB2.out.size))
   ·go_wp2_with fail
    refine c1.mono ?_
    rintro e w1 ⟨v1,rfl,ho1,hon1⟩
    have hb1:Below wr.heap.size wr w1:=(Below.refl _ wr).grown hon1.grown (Nat.le_refl _) (fun j hj=>by cases hj)
    have q1':=(hb1.cell (p:=⟨w.heap.size,1,none⟩) HLT.out).trans q1
    have q2':=(hb1.cell (p:=⟨w.heap.size,2,none⟩) HLT.out).trans q2
    have HB1:=Lib.hid (HBR.out.trans (hb1.mono (Nat.le_of_lt HLT.out)))
    have c2:=Pack.put_any base (by omega) 4 (by omega) (by omega) v1 _ _ w.heap.size w1 ho1 HB1.out.size (by have:=HFL.out;have:=HB1;omega)
    clear q1 q2 c1 hb1 hon1 q2' HLT
    have HO1:=Lib.hid ho1
    clear ho1
    go_wp2_with fail
    refine c2.mono ?_
    rintro e w2 ⟨v2,rfl,ho2,hon2⟩
    have hb2:=hon2.below HO1.out HB1.out.size
    have HB2:=Lib.hid (HB1.out.trans hb2)
    clear hb2 hon2 c2 q1' HO1
    go_wp2_with fail
    have c3:=Pack.put_any 1 (by omega) 1 (by omega) (by omega) v2 _ _ w.heap.size w2 ho2 HB2.out.size (by have:=HFL.out;omega)
    have HOW2:=Lib.hid ho2
    clear ho2
    refine c3.mono ?_
    rintro e w3 ⟨v3,rfl,ho3,hon3⟩
    have HB3:=Lib.hid (And.intro ho3 hon3)
    clear ho3 hon3 c3
    go_wp2
    go_ret
    exact HFIN.out _ _ _ HB3.out.1 (HB2.out.trans (HB3.out.2.below HOW2.out HB2.out.size))
end
end Go.Proofs.YtbhoknnjilidnaaGreatDoor.Seg
end
section
namespace Go.Proofs.YtbhoknnjilidnaaGreatDoor.Seg
open Go.Proofs.YtbhoknnjilidnaaGreatDoor.Mem
open Go.Proofs.YtbhoknnjilidnaaGreatDoor.Disk (Nm File St Eff Has grow errV used lenOf run)
open Go.Proofs (encStr)
open Go.ChangeShapes Go.WideShapes Go.ChangeAt Go.RowKit
section
variable {w w1 w2:World} {p:Nat} {S:St} {F:Nat→Prop}
theorem sw_parts (B:List Int):sw B = .new nT :: ([.add nT B,.syn nT]++[.move nT nM]):=rfl
theorem switchTo_any (h:Dsk w p S F) (hT:Disk.look nT S.files=none) {g off c:Nat} {nums:List Nat} (hm:Nms w g off c nums) (hl:nums.length≤4000) (hi:∀ i ∈ nums,i < 4294967296) (base:Nat) (hb:base < 4294967296) (begun:Bool) :
  Calls Tryz.prog 52 #[manV g off nums.length c base begun,.pointer (some ⟨p,0,none⟩)] w (After w p F (run (sw (manFile nums base begun)) S)):=by
 have hlt:=h.lt
 have hml:(manBody nums base begun).length=7+4 * nums.length:=manBody_length nums base begun
 have hmb:=manBody_bytes nums base begun
 have HD:=Lib.hid h
 have HT:=Lib.hid hT
 have hbx:=(Below.refl _ w).alloc (Nat.le_refl _) (.cells #[.slice (some ⟨g,off,none⟩) nums.length c,.int .i64 (base:Int),.bool begun] 67)
 have c0:=body_any (hm.below hbx) (by omega) hi base hb begun
 have HBX:=Lib.hid hbx
 have HML:=Lib.hid (And.intro hml hmb)
 obtain ⟨B,hB⟩:∃ B,B=manFile nums base begun:=⟨_,rfl⟩
 have HB:=Lib.hid hB
 rw [← hB]
 clear h hT hm hi hb hbx hml hmb hB
 obtain ⟨R,hR⟩:∃ R,R=run (sw B) S:=⟨_,rfl⟩
 rw [← hR]
 have HR:=Lib.hid hR
 clear hR
 have HLT:=Lib.hid hlt
 clear hlt
 unfold manV at c0 ⊢
 go_enter Tryz.func52,Tryz.ntmps52
 go_wp2_with fail
 refine c0.mono ?_
 rintro e w1 ⟨v,rfl,ho,hb1⟩
 have hb1:=HBX.out.trans (hb1.mono HBX.out.size)
 obtain ⟨a1,cap1,rfl,hr1,-,hnil1⟩:=own_shape ho HML.out.2
 have c1:=Frame.put_yes a1 cap1 (manBody nums base begun) w1 (by rw [HML.out.1];exact hr1) (fun hn=>by rcases hnil1 with ⟨_,h,_⟩|⟨g1,h1,_⟩;exact h;rw [hn] at h1;cases h1) (by rw [HML.out.1];omega) (by rw [HML.out.1];omega)
 rw [HML.out.1,Err.errV_zero] at c1
 have HB1:=Lib.hid hb1
 clear ho hr1 hnil1 hb1 c0
 go_wp2_with fail
 refine c1.mono ?_
 rintro e w2 ⟨v2,rfl,ho2,hb2⟩
 obtain ⟨a2,cap2,rfl,hr2,-,hnil2⟩:=own_shape ho2 (Frame.frm_bytes HML.out.2)
 have hbW:=HB1.out.trans (hb2.mono HB1.out.size)
 have hD2:=HD.out.below hbW
 have HBW:=Lib.hid hbW
 have hnF:∀ q,a2=some q→¬ F q.block∧q.block < w2.heap.size:=by
  intro q hq
  rcases hnil2 with ⟨h1,_⟩|⟨g2,h1,h2,h3,_⟩
  ·rw [h1] at hq;cases hq
  ·rw [h1] at hq
   injection hq with hq
   subst hq
   exact ⟨fun hf=>by have:=HLT.out _ hf;have:=HB1.out.size;simp only at *; omega,h3⟩
 have HNF:=Lib.hid hnF
 have HR2:=Lib.hid (And.intro hr2 (show a2=none→cap2=0 from fun hn=>by rcases hnil2 with ⟨_,h,_⟩|⟨g1,h1,_⟩;exact h;rw [hn] at h1;cases h1))
 have c2:=deleteIfThere_any hD2 ⟨#[116]⟩ (by decide)
 have e2:run (if ((none:Option File)).isSome=true then [Eff.gone nT] else []) S=(0,S):=rfl
 rw [show (⟨#[116]⟩:ByteArray).data.toList=nT from rfl,HT.out,e2] at c2
 unfold After at c2
 rw [errV_ok rfl] at c2
 clear hb2 ho2 hD2 c1 hr2 hnil2 e2 hbW hnF
 go_wp2_with fail
 refine c2.mono ?_
 rintro e w3 ⟨rfl,hN3⟩
 have HN3:=Lib.hid hN3
 have c3:=dsk_new hN3.1 ⟨#[116]⟩ (by decide)
 rw [show (⟨#[116]⟩:ByteArray).data.toList=nT from rfl] at c3
 clear hN3 c2
 by_cases e3:((Eff.new nT).call S).1=0
 ·have HQ3:=Lib.hid (run_cons_ok (r:=[.add nT B,.syn nT]++[.move nT nM]) e3)
  unfold After at c3
  rw [errV_ok e3] at c3
  clear e3
  go_wp2_with fail
  refine c3.mono ?_
  rintro e w4 ⟨rfl,hx4⟩
  have hN4:Next w2 p F _ w4:=HN3.out.trans hx4
  have HN4:=Lib.hid hN4
  have hr4:=HR2.out.1.but hN4.2 (fun q hq _=>(HNF.out q hq).1)
  have c4:=appendSynced_any hN4.1 ⟨#[116]⟩ (by decide) a2 _ cap2 _ hr4 HR2.out.2 (fun q hq _=>Next.not_ (HNF.out q hq).1 (HNF.out q hq).2) (by omega)
  rw [show (⟨#[116]⟩:ByteArray).data.toList=nT from rfl,show Frame.frm (manBody nums base begun)=B from HB.out.symm] at c4
  clear hx4 hN4 hr4 c3
  by_cases e4:(run [.add nT B,.syn nT] ((Eff.new nT).call S).2).1=0
  ·have HQ4:=Lib.hid (HQ3.out.trans ((run_app_ok (b:=[.move nT nM]) e4).trans (run_one _ _)))
   unfold After at c4
   rw [errV_ok e4] at c4
   clear e4
   go_wp2_with fail
   refine c4.mono ?_
   rintro e w5 ⟨rfl,hx5⟩
   have hN5:=HN4.out.trans hx5
   have HN5:=Lib.hid hN5
   have c5:=dsk_move hN5.1 ⟨#[116]⟩ (by decide) ⟨#[109]⟩ (by decide)
   clear hx5 hN5 c4
   go_wp2_with fail
   refine c5.mono ?_
   rintro e w6 h6
   obtain ⟨rfl,h7⟩:=After.after HBW.out (After.then_ HN5.out h6)
   clear c5
   go_wp2
   go_ret
   unfold After
   rw [HR.out,sw_parts,HQ4.out]
   exact ⟨rfl,h7⟩
  ·have HQ4:=Lib.hid (HQ3.out.trans (run_app_err (b:=[.move nT nM]) e4))
   have hv:=errV_bad e4
   unfold After at c4
   rw [hv] at c4
   have HV:=Lib.hid hv
   clear e4 hv
   go_wp2_with fail
   refine c4.mono ?_
   rintro e w5 ⟨rfl,hx5⟩
   have HN5:=Lib.hid (Next.after HBW.out (HN4.out.trans hx5))
   clear hx5 c4
   go_wp2
   go_ret
   unfold After
   rw [HR.out,sw_parts,HQ4.out,HV.out]
   exact ⟨rfl,HN5.out⟩
 ·have HQ3:=Lib.hid (run_cons_err (r:=[.add nT B,.syn nT]++[.move nT nM]) e3)
  have hv:=errV_bad e3
  unfold After at c3
  rw [hv] at c3
  have HV:=Lib.hid hv
  clear e3 hv
  go_wp2_with fail
  refine c3.mono ?_
  rintro e w4 ⟨rfl,hx4⟩
  have HN4:=Lib.hid (Next.after HBW.out (HN3.out.trans hx4))
  clear hx4 c3
  go_wp2
  go_ret
  unfold After
  rw [HR.out,sw_parts,HQ3.out,HV.out]
  exact ⟨rfl,HN4.out⟩
end
end Go.Proofs.YtbhoknnjilidnaaGreatDoor.Seg
end
section
namespace Go.Proofs.YtbhoknnjilidnaaGreatDoor.Seg
open Go.Proofs.YtbhoknnjilidnaaGreatDoor.Mem
open Go.Proofs.YtbhoknnjilidnaaGreatDoor.Disk (Nm File St Eff Has grow errV used lenOf run)
open Go.Proofs.YtbhoknnjilidnaaGreatDoor.Pack (Rd num got left shortBy)
open Go.ChangeShapes Go.WideShapes Go.ChangeAt Go.RowKit
section
variable {w w1 w2:World} {p:Nat} {S:St} {F:Nat→Prop}
theorem bytes_of (w:World) (s:ByteArray) (hs:s.size≤1000000000):∃ W K,(convert 9 81 (.string s)).run Tryz.prog w = .ok (.slice (some ⟨w.heap.size,0,none⟩) s.size K) W∧Row W (some ⟨w.heap.size,0,none⟩) s.size (strBytes s)∧Below w.heap.size w W∧W.heap.size=w.heap.size+1:=by
 refine ⟨_,_,Lib.run_convert_string_bytes w 9 81 5 s Tryz.underlying9 Tryz.underlying81 Tryz.underlying5,?_,?_,Lib.bytesWorld_size w _ s⟩
 ·refine ⟨strBytes_length s,strBytes_bytes s,fun h0=>⟨_,_,rfl,?_,fun i hi=>?_⟩⟩
  ·rw [Lib.bytesWorld_size];exact Nat.lt_succ_self _
  ·rw [Nat.zero_add,Lib.bytesWorld_cell w _ s i hi]
   unfold strBytes
   have hi2:i < s.data.toList.length:=by simpa using hi
   have hi3:i < s.data.size:=hi
   simp only [List.getD,List.getElem?_map,Array.getElem?_toList,Array.getElem?_eq_getElem hi3,Option.map_some,Option.getD_some]
 ·refine ⟨rfl,rfl,rfl,?_,fun k hk=>Lib.bytesWorld_at_old w _ s k hk⟩
  rw [Lib.bytesWorld_size];exact Nat.le_succ _
def lenAt (w:World) (p:Nat):Nat:=match w.cell? ⟨p,0,none⟩ with|some (.slice _ n _)=>n|_=>0
theorem lenAt_rd {D:Nat} {zs:List Int} {short:Bool} (h:Rd w p D zs short):lenAt w p=zs.length:=by
 obtain ⟨_,_,_,_,_,h6⟩:=h
 unfold lenAt
 rcases h6 with ⟨h6,rfl⟩|⟨off,cap,_,h6,_⟩
 ·rw [h6];rfl
 ·rw [h6]
def OfSays (w:World) (zs:List Int) (e:Ending) (w':World):Prop :=
 Below w.heap.size w w'∧match segsFrom 0 zs with
  | some ns=>∃ v,e = .returned (.tuple #[v,.bool (decide (0 < ns.length))])∧w'.ownsRow w.heap.size 3 1 v ns.length (intCells ns)
  | none=>e = .returned (.tuple #[.slice none 0 0,.bool false])
theorem segsFrom_app {last:Nat} {zs:List Int} {ns:List Nat} {zs0:List Int} (h:segsFrom 0 zs0=(segsFrom last zs).map (ns ++ ·)) (hne:zs≠[]) (hb:¬ (num (got zs 4)≤last∨num (got zs 4)=4294967295)) :
  segsFrom 0 zs0=(segsFrom (num (got zs 4)) (left zs 4)).map ((ns++[num (got zs 4)]) ++ ·):=by
 rw [h,segsFrom_one hne hb,Option.map_map]
 congr 1
 funext x
 simp
theorem segmentsOf_any (s:ByteArray) (hs:s.size≤65535) (w:World) :
  Calls Tryz.prog 77 #[.string s] w fun e w'=>OfSays w (strBytes s) e w':=by
 obtain ⟨i1,hi1,hy0,hy1,hy2⟩:=info_parts Torn.int_info
 obtain ⟨W,K,hconv,hrow,hbW,hWs⟩:=bytes_of w s (by omega)
 have c1:=Pack.new_any _ _ K _ W hrow (fun h=>by cases h) (by omega)
 have HBW:=Lib.hid hbW
 have HWS:=Lib.hid hWs
 clear hrow hbW hWs
 go_enter Tryz.func77,Tryz.ntmps77
 go_wp2_with fail
 refine c1.mono ?_
 rintro e W1 ⟨p,rfl,hp,D,hR,hb1,hD,hDp⟩
 have hpl:p < W1.heap.size:=by
  have:=hR.1
  exact World.block_lt_of_cell? _ _ this
 have HB1:=Lib.hid (HBW.out.trans (hb1.mono HBW.out.size))
 have HR:=Lib.hid hR
 have HP:=Lib.hid (And.intro hpl (show D < W1.heap.size by omega))
 clear hb1 hR c1 hconv
 go_wp2_with fail
 go_loopw [4,5,7] (fun v la _ wr=>∃ (zs:List Int) (short:Bool) (last:Nat) (ns:List Nat) (va:Option Addr) (n vc:Nat),Rd wr p D zs short∧segsFrom 0 (strBytes s)=(segsFrom last zs).map (ns ++ ·)∧la = .int .u64 (last:Int)∧v = .slice va n vc∧n=ns.length∧wr.ownsRow W1.heap.size 3 1 (.slice va n vc) n (intCells ns)∧Below w.heap.size w wr∧W1.heap.size≤wr.heap.size∧4 * ns.length+zs.length≤65540) (fun _ _ _ wr=>lenAt wr p)
 case atStart =>
  refine ⟨strBytes s,false,0,[],none,0,0,HR.out,?_,rfl,rfl,rfl,World.ownsRow_nil _ _ _ _,HB1.out,Nat.le_refl _,?_⟩
  ·cases segsFrom 0 (strBytes s) <;> simp
  ·rw [strBytes_length];simp;omega
 case round =>
  obtain ⟨zs,short,last,ns,va,n,vc,hR,hsg,rfl,rfl,hn,ho,hb,hsz,hcnt⟩:=hrel
  have hlen:=lenAt_rd hR
  have c1:=Pack.left_any p zs short wr hR
  by_cases hz:zs=[]
  ·subst hz
   rw [segsFrom_nil] at hsg
   simp only [Option.map_some,List.append_nil] at hsg
   have hfin:∀ v,v = .slice va n vc→OfSays w (strBytes s) (.returned (.tuple #[v,.bool (decide (0 < n))])) wr:=by
    intro v hv
    refine ⟨hb,?_⟩
    rw [hsg]
    exact ⟨v,by rw [hn],by rw [hv,← hn];exact ownsRow_base_a ho (by have:=HB1.out.size;omega)⟩
   have HF:=Lib.hid hfin
   clear hsg hn ho hb hsz hcnt hR hfin hlen
   go_wp2_with fail
   refine c1.mono ?_
   rintro e w1 ⟨rfl,rfl⟩
   by_cases h0:0 < n
   ·go_wp2_with fail
    go_ret2
    have:=HF.out _ rfl
    rw [decide_eq_true h0] at this
    exact this
   ·go_wp2_with fail
    go_ret2
    have:=HF.out _ rfl
    rw [decide_eq_false h0] at this
    exact this
  ·have hzl:0 < zs.length:=List.length_pos_iff.2 hz
   have c2:=Pack.number_any p zs short 4 (by omega) (by omega) wr hR
   have hlt:=left_lt (k:=4) (by omega) hz
   have h4:=num4_lt hR.2.2.2.2.1
   obtain ⟨N,hN⟩:∃ N,N=num (got zs 4):=⟨_,rfl⟩
   rw [← hN] at c2 h4
   have HC:=Lib.hid (And.intro hlt (And.intro hlen hN))
   have HO:=Lib.hid (And.intro hsg (And.intro ho (And.intro hb (And.intro hsz hn))))
   have hw:IntKind.i64.wrap (N:Int)=(N:Int):=by rw [IntKind.wrap_i64];omega
   by_cases hbad:N≤last∨N=4294967295
   ·have hfin:∀ W',But (fun b=>b=p) wr W'→OfSays w (strBytes s) (.returned (.tuple #[.slice none 0 0,.bool false])) W':=by
     intro W' hW
     refine ⟨hb.trans (hW.below hb.size (fun k hk=>by rw [show k=p from hk];have:=HWS.out;omega)),?_⟩
     rw [hsg,segsFrom_bad hz (by rw [← hN];exact hbad)]
     rfl
    have HF:=Lib.hid hfin
    clear hlt hlen hN hsg ho hb hsz hn hR hcnt hz hfin
    go_wp2_with fail
    refine c1.mono ?_
    rintro e w1 ⟨rfl,rfl⟩
    go_wp2_with fail
    refine c2.mono ?_
    rintro e w2 ⟨rfl,hR2,hbt⟩
    have HE:=Lib.hid (HF.out _ hbt)
    clear hR2 hbt c1 c2
    by_cases hle:N≤last
    ·go_wp2_with fail
     go_ret2
     exact HE.out
    ·have he:((N:Int) == 4294967295)=true:=by rw [beq_iff_eq];omega
     have he2:decide ((N:Int)≤(last:Int))=false:=decide_eq_false (by omega)
     go_wp2_with fail
     go_ret2
     exact HE.out
   ·have hgt:¬ N≤last:=by omega
    have hne:¬ N=4294967295:=by omega
    have hsg2:=segsFrom_app hsg hz (by rw [← hN];exact hbad)
    rw [← hN] at hsg2
    have hl4:(left zs 4).length+4≤zs.length:=by
     have:4≤zs.length:=by
      rcases Nat.lt_or_ge zs.length 4 with h6|h6
      ·exfalso
       have e0:got zs 4=[]:=if_neg (by omega)
       rw [hN,e0] at hgt
       exact hgt (Nat.zero_le _)
      ·exact h6
     unfold left
     rw [if_pos this,List.length_drop];omega
    have HS2:=Lib.hid hsg2
    have HL4:=Lib.hid hl4
    clear hlt hlen hN hsg ho hb hsz hn hR hz hbad hsg2 hl4
    go_wp2_with fail
    refine c1.mono ?_
    rintro e w1 ⟨rfl,rfl⟩
    go_wp2_with fail
    refine c2.mono ?_
    rintro e w2 ⟨rfl,hR2,hbt⟩
    have ho2:=ownsRow_but HO.out.2.1 hbt (fun k hk hk2=>by have:=(HO.out.2.1.lt k hk).1;have:=HP.out;omega)
    have HR2:=Lib.hid hR2
    have HBT:=Lib.hid hbt
    have HO2:=Lib.hid ho2
    clear hR2 hbt c1 c2 ho2
    go_wp2_with (at_builtin;refine wpList_append_onto rfl _ _ 60 rfl W1.heap.size 3 i1 _ 1 8 Tryz.underlying60 hi1 hy0 hy1 hy2 rfl (by omega) (.slice va n vc) n (intCells ns) rfl (ownsRow_alloc HO2.out _) _ 1 [.int .i64 (N:Int)] rfl (sees_one _ _ _ _) (by intro u hu;rw [List.mem_singleton.1 hu];rfl) (by have:=HO.out.2.2.2.2;unfold maxLen;omega) (by have:=HO.out.2.2.2.2;omega) (by have:=HO.out.2.2.2.1;have:=HBT.out.size;simp;omega) ?_;intro v3 w3 ho3 hon3)
    have hsz3:=hon3.grown.size
    have hR3:Rd w3 p D (left zs 4) (shortBy zs 4 short):=by
     refine (HR2.out.but ((But.refl (fun _=>False) w2).alloc (.cells #[.int .i64 (N:Int)] 3)) (fun h=>h) (fun h=>h)).but hon3.but (fun hk=>?_) (fun hk=>?_)
     ·have:=(HO2.out.lt _ hk.symm).1;have:=HP.out;omega
     ·have:=(HO2.out.lt _ hk.symm).1;have:=HP.out;omega
    have hb3:Below w.heap.size w w3:=by
     have h1:Below w.heap.size wr w2:=HBT.out.below (HO.out.2.2.1.size) (fun k hk=>by rw [show k=p from hk];have:=HWS.out;omega)
     have h2:Below w.heap.size w2 w3:=((Below.refl w.heap.size w2).alloc (Nat.le_trans HO.out.2.2.1.size HBT.out.size) (.cells #[.int .i64 (N:Int)] 3)).trans (hon3.but.below (by have:=HO.out.2.2.1.size;have:=HBT.out.size;simp;omega) (fun k hk=>by have:=(HO2.out.lt k hk.symm).1;have:=HB1.out.size;omega))
     exact HO.out.2.2.1.trans (h1.trans h2)
    have HR3:=Lib.hid (And.intro hR3 hb3)
    rw [intCells_snoc] at ho3
    obtain ⟨g3,c3,rfl,-,-,-,-,-⟩:=nms_of_own ho3 (by simp) (by rw [List.length_append,List.length_singleton];omega)
    have HO3:=Lib.hid ho3
    have hsz4:W1.heap.size≤w3.heap.size:=by
     have e:(w2.alloc (.cells #[.int .i64 (N:Int)] 3)).heap.size=w2.heap.size+1:=by simp
     have:=HO.out.2.2.2.1;have:=HBT.out.size;omega
    have HSZ3:=Lib.hid hsz4
    have hcnt2:4 * (ns++[N]).length+(left zs 4).length≤65540:=by
     have:=HL4.out
     rw [List.length_append,List.length_singleton];omega
    have HCN:=Lib.hid hcnt2
    have hn2:n+1=(ns++[N]).length:=by rw [List.length_append,List.length_singleton,HO.out.2.2.2.2]
    have HN2:=Lib.hid hn2
    clear hR3 hb3 ho3 hon3 hsz3 hsz4 hcnt2 hn2
    go_wp2_with fail
    go_roundw
    case rel=>exact ⟨left zs 4,_,N,ns++[N],some ⟨g3,0,none⟩,n+1,c3,HR3.out.1,HS2.out,rfl,rfl,HN2.out,HO3.out,HR3.out.2,HSZ3.out,HCN.out⟩
    case measure=>rw [lenAt_rd HR3.out.1,HC.out.2.1];exact HC.out.1
end
end Go.Proofs.YtbhoknnjilidnaaGreatDoor.Seg
end

/- Contract: a log is opened. -/
import Derived.Test.YtbhoknnjilidnaaGreatDoorG33
import Derived.Handy
set_option linter.unusedSimpArgs false
set_option linter.unusedVariables false
set_option maxHeartbeats 8000000
set_option maxRecDepth 100000
namespace Go.Proofs.YtbhoknnjilidnaaGreatDoor.Seg
open Go.Proofs.YtbhoknnjilidnaaGreatDoor.Mem
open Go.Proofs.YtbhoknnjilidnaaGreatDoor.Disk (Nm File St Eff Has grow errV used lenOf run)
open Go.Proofs.YtbhoknnjilidnaaGreatDoor.Rec (Rcd Recs Is)
open Go.Proofs.YtbhoknnjilidnaaGreatDoor.Torn (Gp Pc gcells gpl Pcs scan total)
open Go.ChangeShapes Go.WideShapes Go.ChangeAt Go.RowKit
structure SysAt (w:World) (p lb:Nat) (S:St) (limit:Int) (nums:List Nat) (base:Nat) (begun:Bool) (zs:List Nat) (failed:Bool) (F g c:_) (vz:Value):Prop where
 dsk:Dsk w p S F
 log:Disk.Blk w lb 72 (logC p limit g nums.length c base begun vz failed)
 nms:Nms w g 0 c nums
 siz:w.ownsRow 0 3 1 vz zs.length (intCells zs)
 flb:¬ F lb
 fg:¬ F g
 fz:∀ k,vz.ownBlock=some k→¬ F k∧k≠g
 gl:g≠lb
def foot (lb g:Nat) (vz:Value) (F:Nat→Prop) (k:Nat):Prop:=F k∨k=lb∨k=g∨vz.ownBlock=some k
def OpenAfter (w:World) (p:Nat) (F:Nat→Prop) (limit:Int) (nums:List Nat) (begun:Bool) (fl:Nat→File) (r:Int × St) (e:Ending) (w':World):Prop :=
 (r.1=0∧∃ lb F1 g c ap cp aq cs vz gs ss,e = .returned (.tuple #[.pointer (some ⟨lb,0,none⟩),.slice ap gs.length cp,.slice aq ss.length cs,.nilIface])∧SysAt w' p lb r.2 limit nums 0 begun (sizesIn fl nums) false F1 g c vz∧(∀ k,foot lb g vz F1 k→grow F w w' k)∧But F w w' ∧
  (∃ B,w.heap.size≤B∧w'.ownsRow B 103 3 (.slice ap gs.length cp) gs.length (gpl gs)∧w'.ownsRow B 47 3 (.slice aq ss.length cs) ss.length (spl ss))∧(∀ g' ∈ gs,Recs w' g'.a g'.p.l∧∀ x,g'.a=some x→w.heap.size≤x.block∧¬ foot lb g vz F1 x.block)∧(∀ k,(Value.slice ap gs.length cp).ownBlock=some k∨(Value.slice aq ss.length cs).ownBlock=some k→¬ foot lb g vz F1 k)∧gs.map (·.p)=piecesIn fl nums∧ss=spotsIn fl nums) ∨
 (r.1≠0∧(∃ F1,Step w p F r.2 w' F1)∧e = .returned (.tuple #[.pointer none,.slice none 0 0,.slice none 0 0,errV r.1]))
section
variable {w w1 w2:World} {p:Nat} {S S1 S2:St} {F F1 F2:Nat→Prop} {limit:Int} {nums:List Nat} {begun:Bool} {fl:Nat→File}
theorem dsk_down (h:Dsk w p S F):Calls Tryz.prog 15 #[.pointer (some ⟨p,0,none⟩)] w fun e w'=>e = .returned (.bool S.down)∧w=w':=by
 obtain ⟨⟨mb,cr,es,D,hA,hF,hlt⟩,_⟩:=h
 have c4:w.cell? ⟨p,4,none⟩=some (.bool S.down):=hA.blk.cell 4
 clear hA hF hlt
 go_enter Tryz.func15,Tryz.ntmps15
 go_wp2
 go_ret
 exact ⟨rfl,rfl⟩
theorem open_any (h:Dsk w p S F) (hd:S.down=false) (hl1:100≤limit) (hl2:limit≤1073741824) {rM:Int × St} {L:Nat}
  (cM:Calls Tryz.prog 25 #[.pointer (some ⟨p,0,none⟩)] w (ManAfter w p F rM nums 0 begun))
  (hcan:∀ i ∈ nums,i < 100) (hnl:nums.length≤1000) (hL:nums.getLast?=some L) (hri:nums.Pairwise (· < ·))
  (hsz:rM.1=0→∀ x ∈ rM.2.files,x.1.length≤1000000)
  (hfl:rM.1=0→(run (goneN (untold nums (rM.2.files.map (·.1)))) rM.2).1=0→(run (goneN (untold nums (rM.2.files.map (·.1)))) rM.2).2.down=false∧∀ i ∈ nums,Disk.look (seg i) (run (goneN (untold nums (rM.2.files.map (·.1)))) rM.2).2.files=some (fl i)∧Bytes (fl i).bytes∧(i≠L→totOf (fl i)=(fl i).bytes.length)) :
  Calls Tryz.prog 6 #[.pointer (some ⟨p,0,none⟩),.int .i64 limit] w (OpenAfter w p F limit nums begun fl
   (if rM.1=0 then if (run (goneN (untold nums (rM.2.files.map (·.1)))) rM.2).1=0 then run (opC (decide (totOf (fl L) < (fl L).bytes.length)) L (totOf (fl L))) (run (goneN (untold nums (rM.2.files.map (·.1)))) rM.2).2 else run (goneN (untold nums (rM.2.files.map (·.1)))) rM.2 else rM)):=by
 have cD:=dsk_down h
 rw [hd] at cD
 have t1:decide (limit < 100)=false:=decide_eq_false (by omega)
 have t2:decide (1073741824 < limit)=false:=decide_eq_false (by omega)
 obtain ⟨rG,hrG⟩:∃ rG,rG=run (goneN (untold nums (rM.2.files.map (·.1)))) rM.2:=⟨_,rfl⟩
 rw [← hrG] at hfl ⊢
 obtain ⟨rC,hrC⟩:∃ rC,rC=run (opC (decide (totOf (fl L) < (fl L).bytes.length)) L (totOf (fl L))) rG.2:=⟨_,rfl⟩
 rw [← hrC]
 obtain ⟨R,hR⟩:∃ R,R=if rM.1=0 then if rG.1=0 then rC else rG else rM:=⟨_,rfl⟩
 rw [← hR]
 have H0:=Lib.hid (And.intro h hd)
 have HLT:=Lib.hid h.lt
 have HH:=Lib.hid (And.intro hcan (And.intro hnl (And.intro hL (And.intro hri (And.intro hsz hfl)))))
 have HR:=Lib.hid (And.intro hrG (And.intro hrC hR))
 clear h hd hcan hL hri hsz hfl hrG hrC hR hl1 hl2
 go_enter Tryz.func6,Tryz.ntmps6
 go_wp2_with fail
 refine cD.mono ?_
 rintro e w0 ⟨rfl,rfl⟩
 go_wp2_with fail
 refine cM.mono ?_
 rintro e w1 ⟨F1,hS1,⟨hr0,g,c,rfl,hN1,hg1,hgF⟩|⟨hr0,rfl⟩⟩
 ·unfold manV
  have hb1:=(Below.refl _ w1).alloc (Nat.le_refl _) (.cells #[.slice (some ⟨g,0,none⟩) nums.length c,.int .i64 0,.bool begun] 67)
  have c2:=deleteUntold_any (hS1.below_ hb1).1 (hN1.below hb1) (fun i hi=>⟨by have:=HH.out.1 i hi;omega,.inl (HH.out.1 i hi)⟩) (by omega) (HH.out.2.2.2.2.1 hr0) 0 begun
  rw [← HR.out.1] at c2
  unfold manV at c2
  have HS1:=Lib.hid (hS1.below_ hb1)
  have HN1:=Lib.hid (And.intro (hN1.below hb1) (And.intro hg1 (And.intro hgF hr0)))
  have hbx:Disk.Blk (w1.alloc (.cells #[.slice (some ⟨g,0,none⟩) nums.length c,.int .i64 0,.bool begun] 67)) w1.heap.size 67 #[.slice (some ⟨g,0,none⟩) nums.length c,.int .i64 0,.bool begun]:=Disk.Blk.new _ _ _
  obtain ⟨W1,hW1⟩:∃ W,W=w1.alloc (.cells #[.slice (some ⟨g,0,none⟩) nums.length c,.int .i64 0,.bool begun] 67):=⟨_,rfl⟩
  rw [← hW1] at c2 HS1 HN1 hbx
  have HZ1:=Lib.hid (show w.heap.size≤w1.heap.size∧g < w1.heap.size∧∀ k,F1 k→k < w1.heap.size from ⟨hS1.size,hN1.lt,hS1.1.lt⟩)
  have HBX:=Lib.hid hbx
  have n0:W1.cell? ⟨w1.heap.size,0,none⟩=some _:=hbx.cell 0
  have n1:W1.cell? ⟨w1.heap.size,1,none⟩=some _:=hbx.cell 1
  have n2:W1.cell? ⟨w1.heap.size,2,none⟩=some _:=hbx.cell 2
  clear cM cD hS1 hN1 hg1 hgF hb1 hbx
  go_wp2_with fail
  rw [← hW1]
  clear hW1
  by_cases hg0:rG.1=0
  ·have HG0:=Lib.hid hg0
   unfold After at c2
   rw [errV_ok hg0] at c2
   clear hg0
   refine c2.mono ?_
   rintro e w2 ⟨rfl,hN2⟩
   have HS2:=Lib.hid (HS1.out.trans hN2.step)
   have hbx2:=HBX.out.but hN2.2 (fun hF=>by have:=HZ1.out.2.2 _ hF;omega)
   have HM2:=Lib.hid (HN1.out.1.but hN2.2 HN1.out.2.2.1)
   have HGF2:=Lib.hid (show ¬ grow F1 W1 w2 g from not_grow HN1.out.2.2.1 HN1.out.1.lt)
   have n0:w2.cell? ⟨w1.heap.size,0,none⟩=some _:=hbx2.cell 0
   have n1:w2.cell? ⟨w1.heap.size,1,none⟩=some _:=hbx2.cell 1
   have n2:w2.cell? ⟨w1.heap.size,2,none⟩=some _:=hbx2.cell 2
   clear c2 hN2 hbx2
   obtain ⟨hdn,hfl⟩:=HH.out.2.2.2.2.2 HN1.out.2.2.2 HG0.out
   have hbl:=(Below.refl _ w2).alloc (Nat.le_refl _) (.cells #[.pointer (some ⟨p,0,none⟩),.int .i64 limit,.slice (some ⟨g,0,none⟩) nums.length c,.int .i64 0,.bool begun,.slice none 0 0,.bool false] 72)
   have hlb:Disk.Blk (w2.alloc (.cells #[.pointer (some ⟨p,0,none⟩),.int .i64 limit,.slice (some ⟨g,0,none⟩) nums.length c,.int .i64 0,.bool begun,.slice none 0 0,.bool false] 72)) w2.heap.size 72 (logC p limit g nums.length c 0 begun (.slice none 0 0) false):=Disk.Blk.new _ _ _
   have hne:w2.heap.size≠g:=by have:=HM2.out.lt;omega
   have cS:=scan_log (HS2.out.below_ hbl).1 hdn hlb (HM2.out.below hbl) (fun hF=>by have:=HS2.out.1.lt _ hF;omega) HGF2.out hne HH.out.1 HH.out.2.1 HH.out.2.2.1 HH.out.2.2.2.1 hfl
   rw [← HR.out.2.1] at cS
   obtain ⟨W2,hW2⟩:∃ W,W=w2.alloc (.cells #[.pointer (some ⟨p,0,none⟩),.int .i64 limit,.slice (some ⟨g,0,none⟩) nums.length c,.int .i64 0,.bool begun,.slice none 0 0,.bool false] 72):=⟨_,rfl⟩
   have hZ2:W2.heap.size=w2.heap.size+1:=by rw [hW2];simp
   rw [← hW2] at cS hbl
   obtain ⟨lb,hlbz⟩:∃ lb,lb=w2.heap.size:=⟨_,rfl⟩
   have HZ2:=Lib.hid (And.intro hZ2 (And.intro hlbz HS2.out.size))
   have HM3:=Lib.hid (HM2.out.below hbl)
   have HS3:=Lib.hid (HS2.out.below_ hbl)
   rw [← hlbz] at cS
   obtain ⟨F2,hF2⟩:∃ F2,F2=grow F1 W1 w2:=⟨_,rfl⟩
   rw [← hF2] at cS HS3 HGF2
   clear hdn hfl hbl hlb hne hZ2 hF2 HS2
   go_wp2_with fail
   rw [← hW2,← hlbz]
   clear hW2 hlbz
   have hRR:R=rC:=by rw [HR.out.2.2,if_pos HN1.out.2.2.2,if_pos HG0.out]
   have HRR:=Lib.hid hRR
   clear hRR
   refine cS.mono ?_
   rintro e w3 (⟨hc0,F3,ap,cp,aq,cs,vz,gs,ss,zs,rfl,hO⟩|⟨hc0,⟨F3,q1,q2,q3⟩,rfl⟩)
   ·have HO:=Lib.hid (And.intro hc0 hO)
    clear cS hc0 hO n0 n1 n2
    go_wp2_with fail
    go_returns
    obtain ⟨hc0,hO⟩:=HO.out
    rw [HRR.out]
    have hall:nums.take nums.length=nums:=List.take_length
    have z1:=HZ1.out.1
    have z2:=HZ2.out.1
    have z3:=HZ2.out.2.1
    have z4:=HS3.out.size
    have z5:=HN1.out.2.1
    have z6:=HZ1.out.2.1
    have z7:=HZ2.out.2.2
    have z8:=HM3.out.lt
    have z9:=hO.rows.size
    have hzs:=hO.siz
    rw [hall] at hzs
    have hsub:∀ j,F3 j→grow F w w3 j:=fun j hj=>by
     rcases hO.sub j hj with h1|h1
     ·rcases HS3.out.2.1 j h1 with h2|h2
      ·exact .inl h2
      ·exact .inr ⟨h2.1,by omega⟩
     ·exact .inr ⟨by omega,h1.2⟩
    have hgl:g < w2.heap.size:=HM2.out.lt
    refine .inl ⟨hc0,lb,F3,g,c,ap,cp,aq,cs,vz,gs,ss,rfl,⟨hO.dsk,hO.log,HM3.out.but hO.but (fun hg=>by rcases hg with hg|hg;exact HGF2.out hg;omega),by rw [← hzs];exact ownsRow_base_a hO.rows.sizes (Nat.zero_le _),hO.flb,hO.fg,fun k hk=>⟨hO.rows.free k (.inr (.inr hk)),by have:=(hO.rows.sizes.lt k hk).1;omega⟩,by omega⟩,?_,?_,⟨W2.heap.size,by omega,hO.rows.pieces,hO.rows.spots⟩,?_,?_,by rw [hO.pcs,hall],by rw [hO.spo,hall]⟩
    ·rintro k (hk|rfl|rfl|hk)
     ·exact hsub k hk
     ·exact .inr ⟨by omega,hO.log.lt⟩
     ·exact .inr ⟨z5,by omega⟩
     ·exact .inr ⟨by have:=(hO.rows.sizes.lt k hk).1;omega,(hO.rows.sizes.lt k hk).2⟩
    ·refine HS3.out.2.2.trans hO.but (fun i hi hF=>?_)
     rcases hF with hF|hF
     ·rcases HS3.out.2.1 i hF with h2|h2
      ·exact h2
      ·omega
     ·omega
    ·intro g' hg'
     obtain ⟨r1,r2⟩:=hO.rows.recs g' hg'
     refine ⟨r1,fun x hx=>?_⟩
     obtain ⟨a1,a2,a3,a4,a5,a6⟩:=r2 x hx
     refine ⟨by omega,?_⟩
     rintro (h1|h1|h1|h1)
     ·exact a3 h1
     ·omega
     ·omega
     ·exact a6 h1
    ·intro k hk
     have hlt2:W2.heap.size≤k:=by
      rcases hk with hk|hk
      ·exact (hO.rows.pieces.lt k hk).1
      ·exact (hO.rows.spots.lt k hk).1
     rintro (h1|h1|h1|h1)
     ·rcases hk with hk|hk
      ·exact hO.rows.free k (.inl hk) h1
      ·exact hO.rows.free k (.inr (.inl hk)) h1
     ·omega
     ·omega
     ·rcases hk with hk|hk
      ·exact own_ne hO.rows.pieces hO.rows.sizes (by decide) k h1 hk
      ·exact own_ne hO.rows.spots hO.rows.sizes (by decide) k h1 hk
   ·have hv:=errV_bad hc0
    rw [hv]
    have HV:=Lib.hid (And.intro hc0 hv)
    have HQ:=Lib.hid (And.intro q1 (And.intro q2 q3))
    clear cS hc0 hv q1 q2 q3 n0 n1 n2
    go_wp2_with fail
    go_returns
    rw [HRR.out]
    obtain ⟨q1,q2,q3⟩:=HQ.out
    have z2:=HZ2.out.1
    have z3:=HZ2.out.2.1
    have z4:=HS3.out.size
    refine .inr ⟨HV.out.1,⟨F3,q1,fun j hj=>?_,HS3.out.2.2.trans q3 (fun i hi hF=>?_)⟩,by rw [HV.out.2]⟩
    ·rcases q2 j hj with h1|h1
     ·rcases HS3.out.2.1 j h1 with h2|h2
      ·exact .inl h2
      ·exact .inr ⟨h2.1,by have:=q3.size;omega⟩
     ·exact .inr ⟨by omega,h1.2⟩
    ·rcases hF with hF|hF
     ·rcases HS3.out.2.1 i hF with h2|h2
      ·exact h2
      ·omega
     ·have:=HZ2.out.2.2;omega
  ·have hv:=errV_bad hg0
   unfold After at c2
   rw [hv] at c2
   have HV:=Lib.hid (And.intro hg0 hv)
   clear hg0 hv
   refine c2.mono ?_
   rintro e w2 ⟨rfl,hN2⟩
   have HS2:=Lib.hid (HS1.out.trans hN2.step)
   clear c2 hN2
   go_wp2_with fail
   go_returns
   have hRR:R=rG:=by rw [HR.out.2.2,if_pos HN1.out.2.2.2,if_neg HV.out.1]
   rw [hRR]
   exact .inr ⟨HV.out.1,⟨_,HS2.out⟩,by rw [HV.out.2]⟩
 ·have HE:=Lib.hid hr0
  have hv:errV rM.1=_:=errV_bad hr0
  rw [hv]
  have HV:=Lib.hid hv
  have HS1:=Lib.hid (hS1.below_ ((Below.refl _ w1).alloc (Nat.le_refl _) (.cells #[.slice none 0 0,.int .i64 0,.bool false] 67)))
  clear hr0 hv hS1 cM cD
  unfold noMan
  go_wp2_with fail
  go_returns
  have hRR:R=rM:=by rw [HR.out.2.2,if_neg HE.out]
  rw [hRR]
  exact .inr ⟨HE.out,⟨_,HS1.out⟩,by rw [HV.out]⟩
end
end Go.Proofs.YtbhoknnjilidnaaGreatDoor.Seg

/- Contract: what the disk's manifest tells. Contract: the first manifest, on an empty disk. -/
import Derived.Test.YtbhoknnjilidnaaGreatDoorG29
set_option linter.unusedSimpArgs false
set_option linter.unusedVariables false
set_option maxHeartbeats 4000000
set_option maxRecDepth 100000
section
namespace Go.Proofs.YtbhoknnjilidnaaGreatDoor.Seg
open Go.Proofs.YtbhoknnjilidnaaGreatDoor.Mem
open Go.Proofs.YtbhoknnjilidnaaGreatDoor.Disk (Nm File St Eff Has grow errV used lenOf run)
open Go.Proofs.YtbhoknnjilidnaaGreatDoor.Pack (Rd num got left shortBy textGot textLeft textShort)
open Go.ChangeShapes Go.WideShapes Go.ChangeAt Go.RowKit
def noMan:Value := .agg #[.slice none 0 0,.int .i64 0,.bool false]
def form:Value := .iface 33 (.int .i64 2)
def ManSays (w:World) (o:Option (List Nat × Nat × Bool)) (e:Ending) (w':World):Prop :=
 match o with
 | some x=>∃ g c,e = .returned (.tuple #[manV g 0 x.1.length c x.2.1 x.2.2,.nilIface])∧Nms w' g 0 c x.1∧w.heap.size≤g
 | none=>e = .returned (.tuple #[noMan,form])
def zeroM:Array Value := #[.slice none 0 0,.int .i64 0,.bool false]
def ResAt (W:World) (b:Nat):Prop:=Disk.Blk W b 67 zeroM
section
variable {w w1 w2:World} {p:Nat} {S:St} {F:Nat→Prop}
theorem ResAt.new (w:World):ResAt (w.alloc (.cells #[.slice none 0 0,.int .i64 0,.bool false] 67)) w.heap.size:=Disk.Blk.new _ _ _
theorem ResAt.below {b:Nat} (h:ResAt w b) (hb:Below w.heap.size w w1):ResAt w1 b:=h.but (But.of_below hb) (fun hk=>by have:=h.lt;omega)
theorem ResAt.but {b:Nat} {T:Nat→Prop} (h:ResAt w b) (hb:But T w w1) (hT:¬ T b):ResAt w1 b:=Disk.Blk.but h hb hT
theorem ResAt.cells {b:Nat} (h:ResAt w b):w.cell? ⟨b,0,none⟩=some (.slice none 0 0)∧w.cell? ⟨b,1,none⟩=some (.int .i64 0)∧w.cell? ⟨b,2,none⟩=some (.bool false)∧w.frozen? ⟨b,0,none⟩=false∧w.frozen? ⟨b,1,none⟩=false∧w.frozen? ⟨b,2,none⟩=false:=⟨Disk.Blk.cell h 0,Disk.Blk.cell h 1,Disk.Blk.cell h 2,Disk.Blk.frozen h 0,Disk.Blk.frozen h 1,Disk.Blk.frozen h 2⟩
theorem ResAt.set3 {b:Nat} (h:ResAt w b) (x y z:Value):Disk.Blk (((w.setCell ⟨b,0,none⟩ x).setCell ⟨b,1,none⟩ y).setCell ⟨b,2,none⟩ z) b 67 #[x,y,z]:=((Disk.Blk.set_ h 0 x).set_ 1 y).set_ 2 z
theorem but_set3 (w:World) (b:Nat) (x y z:Value):But (fun k=>k=b) w (((w.setCell ⟨b,0,none⟩ x).setCell ⟨b,1,none⟩ y).setCell ⟨b,2,none⟩ z):=(((But.refl (fun k=>k=b) w).setCell (p:=⟨b,0,none⟩) rfl x).setCell (p:=⟨b,1,none⟩) rfl y).setCell (p:=⟨b,2,none⟩) rfl z
theorem below_set3 {B b:Nat} (hb:Below B w w1) (hB:B≤b) (x y z:Value):Below B w (((w1.setCell ⟨b,0,none⟩ x).setCell ⟨b,1,none⟩ y).setCell ⟨b,2,none⟩ z):=((hb.setCell hB x).setCell hB y).setCell hB z
theorem readManifest_any (h:Dsk w p S F) (hd:S.down=false) {f:File} (hl:Disk.look nM S.files=some f) (hby:Bytes f.bytes) :
  Calls Tryz.prog 50 #[.pointer (some ⟨p,0,none⟩)] w fun e w'=>ManSays w (manOf f.bytes) e w'∧Below w.heap.size w w':=by
 have hlen:f.bytes.length≤1000000:=by
  have h1:=Disk.total_le_of (f:=fun e:File=>e.bytes.length) (Disk.look_mem hl)
  have h2:=h.2.used
  unfold Disk.used at h2
  exact Nat.le_trans h1 h2
 have hb0:=(Below.refl _ w).alloc (Nat.le_refl _) (.cells #[.slice none 0 0,.int .i64 0,.bool false] 67)
 have HR0:=Lib.hid (ResAt.new w)
 have c1:=readFile_yes (h.below hb0) hd ⟨#[109]⟩ (by decide) hl
 have HB0:=Lib.hid hb0
 obtain ⟨bs,hbs⟩:∃ bs,bs=f.bytes:=⟨_,rfl⟩
 rw [← hbs] at c1 hlen hby ⊢
 obtain ⟨M,hM⟩:∃ M,M=manOf bs:=⟨_,rfl⟩
 rw [← hM]
 have HM:=Lib.hid hM
 clear h hd hl hb0 hbs hM
 have HY:=Lib.hid hby
 clear hby
 go_enter Tryz.func50,Tryz.ntmps50
 go_wp2_with fail
 refine c1.mono ?_
 rintro e w1 ⟨a,c,rfl,hin,hb1⟩
 have HR1:=Lib.hid (HR0.out.below hb1)
 have HB1:=Lib.hid (HB0.out.trans (hb1.mono HB0.out.size))
 have c2:=Frame.get_any a c bs w1 hin (by omega)
 clear c1 hin hb1 HR0 HB0
 have hbody:=Frame.body_bytes HY.out
 obtain ⟨bd,hbd⟩:∃ bd,bd=Frame.body bs:=⟨_,rfl⟩
 rw [← hbd] at c2 hbody
 by_cases hbad:Frame.bad bs=0
 ·have hbl:bd.length≤1000000:=by
   rw [hbd]
   unfold Frame.body
   rw [if_pos hbad]
   unfold Frame.inner
   rw [List.length_take,List.length_drop];omega
  rw [show Err.errV ((Frame.bad bs:Nat):Int) = .nilIface from if_pos (by omega)] at c2
  have HBD:=Lib.hid (And.intro hbad hbd)
  have HBY:=Lib.hid hbody
  obtain ⟨m,hm⟩:∃ m,m=Frame.many bs:=⟨_,rfl⟩
  rw [← hm] at c2
  have HMY:=Lib.hid hm
  clear hbad hbd hm hbody
  go_wp2_with fail
  refine c2.mono ?_
  rintro e w2 ⟨v,rfl,ho,hb2⟩
  obtain ⟨a2,cap2,rfl,hr2,-,hD2⟩:=own_shape ho HBY.out
  have hn2:a2=none→cap2=0:=fun hn=>by rcases hD2 with ⟨_,h,_⟩|⟨g1,h1,_⟩;exact h;rw [hn] at h1;cases h1
  have HR2:=Lib.hid (HR1.out.below hb2)
  have HB2:=Lib.hid (HB1.out.trans (hb2.mono HB1.out.size))
  have c3:=Pack.new_any a2 _ cap2 bd w2 hr2 hn2 (by omega)
  have hlt2:w.heap.size < w2.heap.size:=HR2.out.lt
  clear hb2 c2 ho hr2 hD2 hn2 HR1 HB1
  by_cases hmy:m=bs.length
  ·have tm:((m:Int) == (bs.length:Int))=true:=by rw [beq_iff_eq];omega
   go_wp2_with fail
   refine c3.mono ?_
   rintro e w3 ⟨r,rfl,hr,D,hR3,hb3,hD,hDr⟩
   have HR3:=Lib.hid (HR2.out.below hb3)
   have HB3:=Lib.hid (HB2.out.trans (hb3.mono HB2.out.size))
   have hne:w.heap.size≠r:=by omega
   have c4:=Pack.text_any r bd false w3 hR3
   clear c3 hb3 hR3
   go_wp2_with fail
   refine c4.mono ?_
   rintro e w4 ⟨rfl,hR4,hb4⟩
   have HR4:=Lib.hid (HR3.out.but hb4 hne)
   have HB4:=Lib.hid (HB3.out.trans (hb4.below HB3.out.size (fun k hk=>by rw [show k=r from hk];omega)))
   have c5:=Pack.number_any r (textLeft bd) (textShort bd false) 4 (by omega) (by omega) w4 hR4
   clear c4 hb4 hR4
   go_wp2_with fail
   refine c5.mono ?_
   rintro e w5 ⟨rfl,hR5,hb5⟩
   have HR5:=Lib.hid (HR4.out.but hb5 hne)
   have HB5:=Lib.hid (HB4.out.trans (hb5.below HB4.out.size (fun k hk=>by rw [show k=r from hk];omega)))
   have c6:=Pack.number_any r _ _ 1 (by omega) (by omega) w5 hR5
   clear c5 hb5 hR5
   go_wp2_with fail
   refine c6.mono ?_
   rintro e w6 ⟨rfl,hR6,hb6⟩
   have HR6:=Lib.hid (HR5.out.but hb6 hne)
   have HB6:=Lib.hid (HB5.out.trans (hb6.below HB5.out.size (fun k hk=>by rw [show k=r from hk];omega)))
   have hRL:=World.block_lt_of_cell? _ _ hR6.1
   have HR6R:=Lib.hid (show Rd w6 r D (manRest bd) (manShort bd) from hR6)
   clear c6 hb6 hR6
   have hgb:Bytes (textGot bd):=Pack.got_bytes (Pack.left_bytes HBY.out 2) _
   have hgl:(textGot bd).length≤65535:=by
    have h4:(textGot bd).length≤Pack.textLen bd:=Pack.got_length_le _ _
    have h5:Pack.textLen bd < 65536:=Pack.num_got2_lt HBY.out
    omega
   have c7:=segmentsOf_any (strOfNums (textGot bd)) (by rw [strOf_size hgb];exact hgl) w6
   rw [strBytes_strOf hgb] at c7
   obtain ⟨N,hN⟩:∃ N,N=manFlag bd:=⟨_,rfl⟩
   have hN1:num (got (left (textLeft bd) 4) 1)=N:=hN.symm
   obtain ⟨b0,hb0⟩:∃ b0,b0=manBase bd:=⟨_,rfl⟩
   have hb1:num (got (textLeft bd) 4)=b0:=hb0.symm
   have hbl4:b0 < 4294967296:=by rw [hb0];exact num4_lt (Pack.left_bytes (Pack.left_bytes HBY.out 2) _)
   rw [hN1,hb1]
   have HFB:=Lib.hid (And.intro hN hb0)
   have hmt:manOf bs=match segsFrom 0 (textGot bd) with
     | some ns=>if ns≠[]∧N≤1∧manShort bd=false∧manRest bd=[] then some (ns,b0,decide (N=1)) else none
     | none=>none:=by
    unfold manOf
    rw [if_pos ⟨HBD.out.1,by rw [← HMY.out];exact hmy⟩,← HBD.out.2,hN,hb0]
    cases segsFrom 0 (textGot bd) <;> rfl
   have HMT:=Lib.hid hmt
   clear hmt
   clear hN hN1 hb0 hb1
   cases hsg:segsFrom 0 (textGot bd) with
   | none =>
    have HN:=Lib.hid (show manOf bs=none by rw [HMT.out,hsg])
    unfold OfSays at c7
    rw [hsg] at c7
    clear hsg
    go_wp2_with fail
    refine c7.mono ?_
    rintro e w7 ⟨hb7,rfl⟩
    have HR7:=Lib.hid (HR6.out.below hb7)
    have HB7:=Lib.hid (HB6.out.trans (hb7.mono HB6.out.size))
    clear hb7 c7
    obtain ⟨z0,z1,z2,y0,y1,y2⟩:=HR7.out.cells
    go_wp2
    refine bodyPost_ret (Rec.results_row_tmp rfl _ _ w.heap.size 67 #[.slice none 0 0,.int .i64 0,.bool false] (0,0) _ rfl (HR7.out.set3 _ _ _) Tryz.underlying67 rfl man_size) rfl ?_
    rw [HM.out,HN.out]
    exact ⟨rfl,below_set3 HB7.out (Nat.le_refl _) _ _ _⟩
   | some ns =>
    unfold OfSays at c7
    rw [hsg] at c7
    have hnb:=(segsFrom_is hgb hsg).2.2
    have HMU:=Lib.hid (show manOf bs=if ns≠[]∧N≤1∧manShort bd=false∧manRest bd=[] then some (ns,b0,decide (N=1)) else none by rw [HMT.out,hsg])
    clear hsg
    by_cases hns:ns=[]
    ·subst hns
     have HN:=Lib.hid (show manOf bs=none by rw [HMU.out,if_neg (fun h=>h.1 rfl)])
     go_wp2_with fail
     refine c7.mono ?_
     rintro e w7 ⟨hb7,v7,rfl,-⟩
     have HR7:=Lib.hid (HR6.out.below hb7)
     have HB7:=Lib.hid (HB6.out.trans (hb7.mono HB6.out.size))
     clear hb7 c7
     obtain ⟨z0,z1,z2,y0,y1,y2⟩:=HR7.out.cells
     go_wp2
     refine bodyPost_ret (Rec.results_row_tmp rfl _ _ w.heap.size 67 #[.slice none 0 0,.int .i64 0,.bool false] (0,0) _ rfl (HR7.out.set3 _ _ _) Tryz.underlying67 rfl man_size) rfl ?_
     rw [HM.out,HN.out]
     exact ⟨rfl,below_set3 HB7.out (Nat.le_refl _) _ _ _⟩
    ·have hnl:0 < ns.length:=List.length_pos_iff.2 hns
     have hdn:decide (0 < ns.length)=true:=decide_eq_true hnl
     have c7:Calls Tryz.prog 77 #[.string (strOfNums (textGot bd))] w6 fun e w'=>Below w6.heap.size w6 w'∧∃ v,e = .returned (.tuple #[v,.bool true])∧w'.ownsRow w6.heap.size 3 1 v ns.length (intCells ns):=c7.mono fun e w' ⟨h1,v,h2,h3⟩=>⟨h1,v,by rw [h2,hdn],h3⟩
     by_cases hN1:N≤1
     ·obtain ⟨sh,hsh⟩:∃ sh,sh=manShort bd:=⟨_,rfl⟩
      obtain ⟨rs,hrs⟩:∃ rs,rs=manRest bd:=⟨_,rfl⟩
      have hrd:Rd w6 r D rs sh:=by rw [hsh,hrs];exact HR6R.out
      have HRD:=Lib.hid hrd
      have HMV:=Lib.hid (show manOf bs=if sh=false∧rs=[] then some (ns,b0,decide (N=1)) else none by
       rw [HMU.out,hsh,hrs]
       by_cases h:manShort bd=false∧manRest bd=[]
       ·rw [if_pos ⟨hns,hN1,h⟩,if_pos h]
       ·rw [if_neg (fun hc=>h hc.2.2),if_neg h])
      clear hsh hrs hrd
      go_wp2_with fail
      refine c7.mono ?_
      rintro e w7 ⟨hb7,v7,rfl,ho7⟩
      have HR7:=Lib.hid (HR6.out.below hb7)
      have HB7:=Lib.hid (HB6.out.trans (hb7.mono HB6.out.size))
      have hrd7:Rd w7 r D rs sh:=HRD.out.but (But.of_below hb7) (show ¬ w6.heap.size≤r from Nat.not_le.2 hRL) (show ¬ w6.heap.size≤D from Nat.not_le.2 (Nat.lt_of_le_of_lt hDr hRL))
      have HO7:=Lib.hid ho7
      have c8:=Pack.short_any r rs sh w7 hrd7
      have c9:=Pack.left_any r rs sh w7 hrd7
      clear hb7 c7 ho7 hrd7
      go_wp2_with fail
      refine c8.mono ?_
      rintro e w8 ⟨rfl,rfl⟩
      cases sh
      ·go_wp2_with fail
       refine c9.mono ?_
       rintro e w9 ⟨rfl,rfl⟩
       by_cases hr0:rs=[]
       ·subst hr0
        have HN:=Lib.hid (show manOf bs=some (ns,b0,decide (N=1)) by rw [HMV.out];exact if_pos (by simp))
        obtain ⟨g,cg,rfl,hgn,hgb2,hgl2,hgc,hcm,hcell⟩:=nms_of_own HO7.out hnl (by omega)
        have HG:=Lib.hid (show Nms w7 g 0 cg ns from ⟨hgl2,by omega,hcm,hcell⟩)
        have hgw:w.heap.size≤g:=by have:=HB6.out.size;omega
        have HGW:=Lib.hid (And.intro hgw (show g≠w.heap.size by have:=HR6.out.lt;omega))
        have ewb:IntKind.i64.wrap (b0:Int)=(b0:Int):=by rw [IntKind.wrap_i64];omega
        obtain ⟨z0,z1,z2,y0,y1,y2⟩:=HR7.out.cells
        clear hcell hgw hcm
        by_cases h1:N=1
        ·have tb:((N:Int) == 1)=true:=by rw [beq_iff_eq];omega
         clear hgn
         go_wp2
         refine bodyPost_ret (Rec.results_row_tmp rfl _ _ w.heap.size 67 #[.slice (some ⟨g,0,none⟩) ns.length cg,.int .i64 (b0:Int),.bool true] (0,0) _ rfl (HR7.out.set3 _ _ _) Tryz.underlying67 rfl man_size) rfl ?_
         rw [HM.out,HN.out,decide_eq_true h1]
         exact ⟨⟨g,cg,rfl,HG.out.but (but_set3 _ _ _ _ _) HGW.out.2,HGW.out.1⟩,below_set3 HB7.out (Nat.le_refl _) _ _ _⟩
        ·have tb:((N:Int) == 1)=false:=by rw [beq_eq_false_iff_ne];omega
         clear hgn
         go_wp2
         refine bodyPost_ret (Rec.results_row_tmp rfl _ _ w.heap.size 67 #[.slice (some ⟨g,0,none⟩) ns.length cg,.int .i64 (b0:Int),.bool false] (0,0) _ rfl (HR7.out.set3 _ _ _) Tryz.underlying67 rfl man_size) rfl ?_
         rw [HM.out,HN.out,decide_eq_false h1]
         exact ⟨⟨g,cg,rfl,HG.out.but (but_set3 _ _ _ _ _) HGW.out.2,HGW.out.1⟩,below_set3 HB7.out (Nat.le_refl _) _ _ _⟩
       ·have hr1:0 < rs.length:=List.length_pos_iff.2 hr0
        have HN:=Lib.hid (show manOf bs=none by rw [HMV.out,if_neg (fun h=>hr0 h.2)])
        obtain ⟨z0,z1,z2,y0,y1,y2⟩:=HR7.out.cells
        go_wp2
        refine bodyPost_ret (Rec.results_row_tmp rfl _ _ w.heap.size 67 #[.slice none 0 0,.int .i64 0,.bool false] (0,0) _ rfl (HR7.out.set3 _ _ _) Tryz.underlying67 rfl man_size) rfl ?_
        rw [HM.out,HN.out]
        exact ⟨rfl,below_set3 HB7.out (Nat.le_refl _) _ _ _⟩
      ·have HN:=Lib.hid (show manOf bs=none by rw [HMV.out,if_neg (fun h=>by cases h.1)])
       obtain ⟨z0,z1,z2,y0,y1,y2⟩:=HR7.out.cells
       go_wp2
       refine bodyPost_ret (Rec.results_row_tmp rfl _ _ w.heap.size 67 #[.slice none 0 0,.int .i64 0,.bool false] (0,0) _ rfl (HR7.out.set3 _ _ _) Tryz.underlying67 rfl man_size) rfl ?_
       rw [HM.out,HN.out]
       exact ⟨rfl,below_set3 HB7.out (Nat.le_refl _) _ _ _⟩
     ·have HN:=Lib.hid (show manOf bs=none by rw [HMU.out,if_neg (fun h=>hN1 h.2.1)])
      go_wp2_with fail
      refine c7.mono ?_
      rintro e w7 ⟨hb7,v7,rfl,-⟩
      have HR7:=Lib.hid (HR6.out.below hb7)
      have HB7:=Lib.hid (HB6.out.trans (hb7.mono HB6.out.size))
      clear hb7 c7
      obtain ⟨z0,z1,z2,y0,y1,y2⟩:=HR7.out.cells
      go_wp2
      refine bodyPost_ret (Rec.results_row_tmp rfl _ _ w.heap.size 67 #[.slice none 0 0,.int .i64 0,.bool false] (0,0) _ rfl (HR7.out.set3 _ _ _) Tryz.underlying67 rfl man_size) rfl ?_
      rw [HM.out,HN.out]
      exact ⟨rfl,below_set3 HB7.out (Nat.le_refl _) _ _ _⟩
  ·have tm:((m:Int) == (bs.length:Int))=false:=by rw [beq_eq_false_iff_ne];omega
   have hN:manOf bs=none:=by unfold manOf;rw [if_neg (fun hc=>hmy (HMY.out.trans hc.2))]
   have HN:=Lib.hid hN
   clear hN c3
   obtain ⟨z0,z1,z2,y0,y1,y2⟩:=HR2.out.cells
   go_wp2
   refine bodyPost_ret (Rec.results_row_tmp rfl _ _ w.heap.size 67 #[.slice none 0 0,.int .i64 0,.bool false] (0,0) _ rfl (HR2.out.set3 _ _ _) Tryz.underlying67 rfl man_size) rfl ?_
   rw [HM.out,HN.out]
   exact ⟨rfl,below_set3 HB2.out (Nat.le_refl _) _ _ _⟩
 ·have hN:manOf bs=none:=by unfold manOf;rw [if_neg (fun hc=>hbad hc.1)]
  have HN:=Lib.hid hN
  have hv:Err.errV ((Frame.bad bs:Nat):Int) = .iface 33 (.int .i64 ((Frame.bad bs:Nat):Int)):=if_neg (by omega)
  rw [hv] at c2
  clear hN hv hbad hbd hbody
  go_wp2_with fail
  refine c2.mono ?_
  rintro e w2 ⟨v,rfl,-,hb2⟩
  have HR2:=Lib.hid (HR1.out.below hb2)
  have HB2:=Lib.hid (HB1.out.trans (hb2.mono HB1.out.size))
  clear hb2 c2
  obtain ⟨z0,z1,z2,y0,y1,y2⟩:=HR2.out.cells
  go_wp2
  refine bodyPost_ret (Rec.results_row_tmp rfl _ _ w.heap.size 67 #[.slice none 0 0,.int .i64 0,.bool false] (0,0) _ rfl (HR2.out.set3 _ _ _) Tryz.underlying67 rfl man_size) rfl ?_
  rw [HM.out,HN.out]
  exact ⟨rfl,below_set3 HB2.out (Nat.le_refl _) _ _ _⟩
end
end Go.Proofs.YtbhoknnjilidnaaGreatDoor.Seg
end
section
namespace Go.Proofs.YtbhoknnjilidnaaGreatDoor.Seg
open Go.Proofs.YtbhoknnjilidnaaGreatDoor.Mem
open Go.Proofs.YtbhoknnjilidnaaGreatDoor.Disk (Nm File St Eff Has grow errV used lenOf run)
open Go.ChangeShapes Go.WideShapes Go.ChangeAt Go.RowKit
section
variable {w w1 w2:World} {p:Nat} {S S1 S2:St} {F F1 F2:Nat→Prop}
def Step (w:World) (p:Nat) (F:Nat→Prop) (S':St) (w':World) (F':Nat→Prop):Prop:=Dsk w' p S' F'∧(∀ k,F' k→grow F w w' k)∧But F w w'
theorem Next.step (h:Next w p F S w1):Step w p F S w1 (grow F w w1):=⟨h.1,fun _ hk=>hk,h.2⟩
theorem Step.size (h:Step w p F S w1 F1):w.heap.size≤w1.heap.size:=h.2.2.size
theorem Step.new (h:Dsk w p S F) (hb:Below w.heap.size w w1):Step w p F S w1 F:=⟨h.below hb,fun _ hk => .inl hk,But.of_new hb⟩
theorem Step.trans (h:Step w p F S1 w1 F1) (k:Step w1 p F1 S2 w2 F2):Step w p F S2 w2 F2:=by
 have s1:=h.size
 have s2:=k.size
 refine ⟨k.1,fun i hi=>?_,h.2.2.trans k.2.2 (fun i hi hg=>?_)⟩
 ·rcases k.2.1 i hi with hg|hg
  ·rcases h.2.1 i hg with h1|h1
   ·exact .inl h1
   ·exact .inr ⟨h1.1,by omega⟩
  ·exact .inr ⟨by omega,hg.2⟩
 ·rcases h.2.1 i hg with h1|h1
  ·exact h1
  ·omega
theorem Step.below_ (h:Step w p F S1 w1 F1) (hb:Below w1.heap.size w1 w2):Step w p F S1 w2 F1:=h.trans (Step.new h.1 hb)
theorem Step.but (h:Step w p F S1 w1 F1) {T:Nat→Prop} (hb:But T w1 w2) (hT:∀ k,T k→¬ F1 k) (hT2:∀ k,T k→w.heap.size≤k):Step w p F S1 w2 F1:=by
 have s1:=h.size
 have s2:=hb.size
 refine ⟨⟨h.1.1.but hb (fun k hk ht=>hT k ht hk),h.1.2⟩,fun i hi=>?_,h.2.2.trans hb (fun i hi ht=>by have:=hT2 i ht;omega)⟩
 rcases h.2.1 i hi with h1|h1
 ·exact .inl h1
 ·exact .inr ⟨h1.1,by omega⟩
theorem call_files {x:Eff} {S:St} (h:(x.call S).1=0):(x.call S).2.files=x.on S.files∧(x.call S).2.down=false∧S.down=false∧x.may S.cap S.files:=by
 by_cases hm:S.down=false∧x.may S.cap S.files
 ·have e:=Disk.call_eq x S hm.1 hm.2
  cases hn:Disk.now S with
  | none =>
   rw [Disk.effect_done hn] at e
   rw [e]
   exact ⟨rfl,hm.1,hm.1,hm.2⟩
  | some kp =>
   rw [Disk.effect_crash hn] at e
   rw [e] at h
   cases h
 ·exact absurd h (call_not x S hm).2
theorem run_files {xs:List Eff} {S:St} (hd:S.down=false) (h:(run xs S).1=0):(run xs S).2.files=Disk.ons xs S.files∧(run xs S).2.down=false∧Disk.Mays S.cap xs S.files:=by
 induction xs generalizing S with
 | nil=>exact ⟨rfl,hd,trivial⟩
 | cons x r ih =>
  by_cases hx:(x.call S).1=0
  ·rw [run_cons_ok hx] at h ⊢
   obtain ⟨h1,h2,_,h4⟩:=call_files hx
   obtain ⟨g1,g2,g3⟩:=ih h2 h
   have hc:(x.call S).2.cap=S.cap:=by
    rw [Disk.call_eq x S hd h4]
    cases hn:Disk.now S with
    | none=>rw [Disk.effect_done hn];rfl
    | some kp=>rw [Disk.effect_crash hn];rfl
   rw [h1] at g1 g3
   rw [hc] at g3
   exact ⟨g1,g2,h4,g3⟩
  ·rw [run_cons_err hx] at h
   exact absurd h hx
theorem not_grow {k:Nat} (h1:¬ F k) (h2:k < w.heap.size):¬ grow F w w1 k:=Next.not_ h1 h2
def ManAfter (w:World) (p:Nat) (F:Nat→Prop) (r:Int × St) (ns:List Nat) (base:Nat) (begun:Bool) (e:Ending) (w':World):Prop :=
 ∃ F',Step w p F r.2 w' F'∧((r.1=0∧∃ g c,e = .returned (.tuple #[manV g 0 ns.length c base begun,.nilIface])∧Nms w' g 0 c ns∧w.heap.size≤g∧¬ F' g)∨(r.1≠0∧e = .returned (.tuple #[noMan,errV r.1])))
theorem first_shape {base:Nat} {v:Value} (h:w.ownsRow base 9 1 v 0 []):∃ a c,v = .slice a 0 c:=by
 rcases h.2 with ⟨h1,h2⟩|⟨g,cap,cur,h1,_⟩
 ·exact ⟨_,_,h1⟩
 ·exact ⟨_,_,h1⟩
theorem firstManifest_any (h:Dsk w p S F) (hf:S.files=[]) :
  Calls Tryz.prog 49 #[.pointer (some ⟨p,0,none⟩)] w (ManAfter w p F (run (rotA 1 (manFile [1] 0 false)) S) [1] 0 false):=by
 have hlt:=h.lt
 have b0:=ResAt.new w
 have hb0:=(Below.refl _ w).alloc (Nat.le_refl _) (.cells #[.slice none 0 0,.int .i64 0,.bool false] 67)
 have hs0:(w.alloc (.cells #[.slice none 0 0,.int .i64 0,.bool false] 67)).heap.size=w.heap.size+1:=by simp
 obtain ⟨WA,hWA⟩:∃ W,W=w.alloc (.cells #[.slice none 0 0,.int .i64 0,.bool false] 67):=⟨_,rfl⟩
 rw [← hWA] at b0 hb0 hs0
 have b1:=Disk.Blk.new WA 3 #[.int .i64 1]
 have hb1:=(Below.refl _ WA).alloc (Nat.le_refl _) (.cells #[.int .i64 1] 3)
 have hs1:(WA.alloc (.cells #[.int .i64 1] 3)).heap.size=w.heap.size+2:=by simp [hs0]
 obtain ⟨WB,hWB⟩:∃ W,W=WA.alloc (.cells #[.int .i64 1] 3):=⟨_,rfl⟩
 rw [← hWB] at b1 hb1 hs1
 rw [hs0] at b1
 have b2:=Disk.Blk.new WB 67 #[.slice (some ⟨w.heap.size+1,0,none⟩) 1 1,.int .i64 0,.bool false]
 have hb2:=(Below.refl _ WB).alloc (Nat.le_refl _) (.cells #[.slice (some ⟨w.heap.size+1,0,none⟩) 1 1,.int .i64 0,.bool false] 67)
 have hs2:(WB.alloc (.cells #[.slice (some ⟨w.heap.size+1,0,none⟩) 1 1,.int .i64 0,.bool false] 67)).heap.size=w.heap.size+3:=by simp [hs1]
 obtain ⟨W,hW⟩:∃ W,W=WB.alloc (.cells #[.slice (some ⟨w.heap.size+1,0,none⟩) 1 1,.int .i64 0,.bool false] 67):=⟨_,rfl⟩
 rw [← hW] at b2 hb2 hs2
 rw [hs1] at b2
 have hWe:W=((w.alloc (.cells #[.slice none 0 0,.int .i64 0,.bool false] 67)).alloc (.cells #[.int .i64 1] 3)).alloc (.cells #[.slice (some ⟨w.heap.size+1,0,none⟩) 1 1,.int .i64 0,.bool false] 67):=by rw [hW,hWB,hWA]
 have hbW:Below w.heap.size w W:=hb0.trans ((hb1.mono (by omega)).trans (hb2.mono (by omega)))
 have hR:ResAt W w.heap.size:=(b0.below hb1).below hb2
 have hN:Nms W (w.heap.size+1) 0 1 [1]:=⟨by omega,by simp,by unfold maxLen;omega,fun i hi=>by
  have hi0:i=0:=by simp at hi;omega
  subst hi0
  exact (b1.but (But.of_below hb2) (by omega)).cell 0⟩
 have HB:=Lib.hid hbW
 have HR:=Lib.hid hR
 have HN:=Lib.hid hN
 have HM:=Lib.hid b2
 have HZ:=Lib.hid hs2
 have hD:=h.below hbW
 have HD:=Lib.hid hD
 have c1:=dsk_list hD
 rw [hf] at c1
 simp only [List.length_nil,List.map_nil] at c1
 have HF:=Lib.hid hf
 have H0:=Lib.hid h
 have HLT:=Lib.hid hlt
 obtain ⟨R,hRR⟩:∃ R,R=run (rotA 1 (manFile [1] 0 false)) S:=⟨_,rfl⟩
 rw [← hRR]
 have HRR:=Lib.hid hRR
 obtain ⟨b,hbz⟩:∃ b,b=w.heap.size+1+1:=⟨_,rfl⟩
 have HBZ:=Lib.hid (show b=w.heap.size+2 from hbz)
 clear h hlt b0 hb0 hs0 b1 hb1 hs1 b2 hb2 hs2 hWA hWB hW hbW hR hN hD hf hRR
 go_enter Tryz.func49,Tryz.ntmps49
 go_wp2_with fail
 rw [← hWe,← hbz]
 clear hWe hbz
 refine c1.mono ?_
 rintro e w1 ⟨v,rfl,ho1,hb1⟩
 obtain ⟨a1,cp1,rfl⟩:=first_shape ho1
 have hD1:=HD.out.below hb1
 have HR1:=Lib.hid (HR.out.below hb1)
 have HN1:=Lib.hid (HN.out.below hb1)
 have hm1:=HM.out.but (But.of_below hb1) (by have:=HZ.out;omega)
 rw [← HBZ.out] at hm1
 have HM1:=Lib.hid hm1
 have HB1:=Lib.hid (HB.out.trans (hb1.mono HB.out.size))
 have HZ1:=Lib.hid (show w.heap.size+3≤w1.heap.size by have:=hb1.size;have:=HZ.out;omega)
 have c2:=deleteAll_any hD1 a1 cp1 [] (fun h=>absurd h (by simp)) (fun q _ h=>absurd h (by simp)) (by simp) (by simp)
 rw [show run (goneN []) S=(0,S) from rfl] at c2
 unfold After at c2
 rw [errV_ok rfl] at c2
 have HNF:=Lib.hid (show ∀ k,w.heap.size≤k→¬ F k from fun k hk hF=>by have:=HLT.out k hF;omega)
 have HS1:=Lib.hid (Step.new H0.out HB1.out)
 clear ho1 hb1 c1 hD1 hm1 HR HN HM HB
 go_wp2_with fail
 refine c2.mono ?_
 rintro e w2 ⟨rfl,hN2⟩
 have HS2:=Lib.hid (HS1.out.trans hN2.step)
 have hbt:=hN2.2
 have HW2:=Lib.hid hN2.size
 have HR2:=Lib.hid (HR1.out.but hbt (HNF.out _ (Nat.le_refl _)))
 have HN2:=Lib.hid (HN1.out.but hbt (HNF.out _ (Nat.le_succ _)))
 have hm2:=HM1.out.but hbt (HNF.out _ (by have:=HBZ.out;omega))
 have HM2:=Lib.hid hm2
 have HG2:=Lib.hid (show ∀ k,w.heap.size≤k→k < w1.heap.size→¬ grow F w1 w2 k from fun k h1 h2=>not_grow (HNF.out k h1) h2)
 have q0:w2.cell? ⟨b,0,none⟩=some _:=hm2.cell 0
 have q1:w2.cell? ⟨b,1,none⟩=some _:=hm2.cell 1
 have q2:w2.cell? ⟨b,2,none⟩=some _:=hm2.cell 2
 have c3:=last_any HN2.out (i:=1) rfl 0 false
 unfold manV at c3
 clear hN2 hbt hm2 c2 HR1 HN1 HM1
 go_wp2_with fail
 refine c3.mono ?_
 rintro e w3 ⟨rfl,hb3⟩
 have c4:=segmentFile_any (w:=w3) 1 (by omega) (.inl (by omega))
 have HS3:=Lib.hid (HS2.out.below_ hb3)
 have HR3:=Lib.hid (HR2.out.below hb3)
 have HN3:=Lib.hid (HN2.out.below hb3)
 have HM3:=Lib.hid (HM2.out.but (But.of_below hb3) (by have:=HM2.out.lt;omega))
 have HW3:=Lib.hid hb3.size
 clear c3 hb3 HS2 HR2 HN2 HM2 q0 q1 q2
 go_wp2_with fail
 refine c4.mono ?_
 rintro e w4 ⟨rfl,hb4⟩
 have HS4:=Lib.hid (HS3.out.below_ hb4)
 have HR4:=Lib.hid (HR3.out.below hb4)
 have HN4:=Lib.hid (HN3.out.below hb4)
 have HM4:=Lib.hid (HM3.out.but (But.of_below hb4) (by have:=HM3.out.lt;omega))
 have c5:=dsk_new HS4.out.1 (segB 1) (segB_size 1 (by omega))
 rw [segB_nm] at c5
 have HW4:=Lib.hid (show w1.heap.size≤w4.heap.size from Nat.le_trans HW2.out (Nat.le_trans HW3.out hb4.size))
 clear c4 hb4 HS3 HR3 HN3 HM3
 by_cases e5:((Eff.new (seg 1)).call S).1=0
 ·have HQ5:=Lib.hid (run_cons_ok (r:=sw (manFile [1] 0 false)) e5)
  unfold After at c5
  rw [errV_ok e5] at c5
  have HE5:=Lib.hid e5
  clear e5
  go_wp2_with fail
  refine c5.mono ?_
  rintro e w5 ⟨rfl,hN5⟩
  have HS5:=Lib.hid (HS4.out.trans hN5.step)
  have hbt:=hN5.2
  have HW5:=Lib.hid hN5.size
  have HR5:=Lib.hid (HR4.out.but hbt (HG2.out _ (Nat.le_refl _) (by have:=HZ1.out;omega)))
  have hn5:=HN4.out.but hbt (HG2.out _ (Nat.le_succ _) (by have:=HZ1.out;omega))
  have HN5:=Lib.hid hn5
  have hm5:=HM4.out.but hbt (HG2.out _ (by have:=HBZ.out;omega) (by have:=HZ1.out;have:=HBZ.out;omega))
  have HM5:=Lib.hid hm5
  have q0:w5.cell? ⟨b,0,none⟩=some _:=hm5.cell 0
  have q1:w5.cell? ⟨b,1,none⟩=some _:=hm5.cell 1
  have q2:w5.cell? ⟨b,2,none⟩=some _:=hm5.cell 2
  have hT5:Disk.look nT ((Eff.new (seg 1)).call S).2.files=none:=by
   rw [(call_files HE5.out).1,HF.out]
   show Disk.look nT [(seg 1,_)]=none
   unfold Disk.look
   rw [if_neg (seg_t 1)];rfl
  have c6:=switchTo_any HS5.out.1 hT5 hn5 (by simp) (by simp) 0 (by omega) false
  unfold manV at c6
  have HG5:=Lib.hid (show ∀ k,w.heap.size≤k→k < w1.heap.size→¬ grow (grow F w1 w2) w4 w5 k from fun k h1 h2=>not_grow (HG2.out k h1 h2) (Nat.lt_of_lt_of_le h2 HW4.out))
  clear c5 hN5 hbt hn5 hm5 hT5 HR4 HN4 HM4
  by_cases e6:(run (sw (manFile [1] 0 false)) ((Eff.new (seg 1)).call S).2).1=0
  ·unfold After at c6
   rw [errV_ok e6] at c6
   have HE6:=Lib.hid e6
   clear e6
   go_wp2_with fail
   refine c6.mono ?_
   rintro e w6 ⟨rfl,hN6⟩
   have HS6:=Lib.hid (HS5.out.trans hN6.step)
   have hbt:=hN6.2
   have HR6:=Lib.hid (HR5.out.but hbt (HG5.out _ (Nat.le_refl _) (by have:=HZ1.out;omega)))
   have HN6:=Lib.hid (HN5.out.but hbt (HG5.out _ (Nat.le_succ _) (by have:=HZ1.out;omega)))
   have hm6:=HM5.out.but hbt (HG5.out _ (by have:=HBZ.out;omega) (by have:=HZ1.out;have:=HBZ.out;omega))
   clear q0 q1 q2
   have q0:w6.cell? ⟨b,0,none⟩=some _:=hm6.cell 0
   have q1:w6.cell? ⟨b,1,none⟩=some _:=hm6.cell 1
   have q2:w6.cell? ⟨b,2,none⟩=some _:=hm6.cell 2
   clear hN6 hbt hm6 c6
   obtain ⟨z0,z1,z2,y0,y1,y2⟩:=HR6.out.cells
   go_wp2
   refine bodyPost_ret (Rec.results_row_tmp rfl _ _ w.heap.size 67 #[.slice (some ⟨w.heap.size+1,0,none⟩) 1 1,.int .i64 0,.bool false] (0,0) _ rfl (HR6.out.set3 _ _ _) Tryz.underlying67 rfl man_size) rfl ?_
   have hR:R=run (sw (manFile [1] 0 false)) ((Eff.new (seg 1)).call S).2:=HRR.out.trans HQ5.out
   unfold ManAfter
   rw [hR]
   have hg6:∀ k,w.heap.size≤k→k < w1.heap.size→¬ grow (grow (grow F w1 w2) w4 w5) w5 w6 k:=fun k h1 h2=>not_grow (HG5.out k h1 h2) (Nat.lt_of_lt_of_le h2 (Nat.le_trans HW4.out HW5.out))
   refine ⟨_,HS6.out.but (but_set3 _ _ _ _ _) (fun k hk=>by rw [show k=w.heap.size from hk];exact hg6 _ (Nat.le_refl _) (by have:=HZ1.out;omega)) (fun k hk=>Nat.le_of_eq (show k=w.heap.size from hk).symm),.inl ⟨HE6.out,_,_,rfl,HN6.out.but (but_set3 _ _ _ _ _) (show ¬ (w.heap.size+1=w.heap.size) by omega),Nat.le_succ _,hg6 _ (Nat.le_succ _) (by have:=HZ1.out;omega)⟩⟩
  ·have hv:=errV_bad e6
   unfold After at c6
   rw [hv] at c6
   have HV:=Lib.hid (And.intro e6 hv)
   clear e6 hv
   go_wp2_with fail
   refine c6.mono ?_
   rintro e w6 ⟨rfl,hN6⟩
   have HS6:=Lib.hid (HS5.out.trans hN6.step)
   have HR6:=Lib.hid (HR5.out.but hN6.2 (HG5.out _ (Nat.le_refl _) (by have:=HZ1.out;omega)))
   clear hN6 c6 q0 q1 q2
   obtain ⟨z0,z1,z2,y0,y1,y2⟩:=HR6.out.cells
   go_wp2
   refine bodyPost_ret (Rec.results_row_tmp rfl _ _ w.heap.size 67 #[.slice none 0 0,.int .i64 0,.bool false] (0,0) _ rfl (HR6.out.set3 _ _ _) Tryz.underlying67 rfl man_size) rfl ?_
   have hR:R=run (sw (manFile [1] 0 false)) ((Eff.new (seg 1)).call S).2:=HRR.out.trans HQ5.out
   unfold ManAfter
   rw [hR]
   have hg6:∀ k,w.heap.size≤k→k < w1.heap.size→¬ grow (grow (grow F w1 w2) w4 w5) w5 w6 k:=fun k h1 h2=>not_grow (HG5.out k h1 h2) (Nat.lt_of_lt_of_le h2 (Nat.le_trans HW4.out HW5.out))
   refine ⟨_,HS6.out.but (but_set3 _ _ _ _ _) (fun k hk=>by rw [show k=w.heap.size from hk];exact hg6 _ (Nat.le_refl _) (by have:=HZ1.out;omega)) (fun k hk=>Nat.le_of_eq (show k=w.heap.size from hk).symm),.inr ⟨HV.out.1,by rw [HV.out.2];rfl⟩⟩
 ·have HQ5:=Lib.hid (run_cons_err (r:=sw (manFile [1] 0 false)) e5)
  have hv:=errV_bad e5
  unfold After at c5
  rw [hv] at c5
  have HV:=Lib.hid (And.intro e5 hv)
  clear e5 hv
  go_wp2_with fail
  refine c5.mono ?_
  rintro e w5 ⟨rfl,hN5⟩
  have HS5:=Lib.hid (HS4.out.trans hN5.step)
  have HR5:=Lib.hid (HR4.out.but hN5.2 (HG2.out _ (Nat.le_refl _) (by have:=HZ1.out;omega)))
  clear hN5 c5
  obtain ⟨z0,z1,z2,y0,y1,y2⟩:=HR5.out.cells
  go_wp2
  refine bodyPost_ret (Rec.results_row_tmp rfl _ _ w.heap.size 67 #[.slice none 0 0,.int .i64 0,.bool false] (0,0) _ rfl (HR5.out.set3 _ _ _) Tryz.underlying67 rfl man_size) rfl ?_
  have hR:R=(Eff.new (seg 1)).call S:=HRR.out.trans HQ5.out
  unfold ManAfter
  rw [hR]
  refine ⟨_,HS5.out.but (but_set3 _ _ _ _ _) (fun k hk=>by rw [show k=w.heap.size from hk];exact not_grow (HG2.out _ (Nat.le_refl _) (by have:=HZ1.out;omega)) (by have:=HW4.out;have:=HZ1.out;omega)) (fun k hk=>Nat.le_of_eq (show k=w.heap.size from hk).symm),.inr ⟨HV.out.1,by rw [HV.out.2];rfl⟩⟩
end
end Go.Proofs.YtbhoknnjilidnaaGreatDoor.Seg
end

/- Contract: the disk's manifest, made ready. Contract: the manifest of an empty disk, made ready. -/
import Derived.Test.YtbhoknnjilidnaaGreatDoorG30
set_option linter.unusedSimpArgs false
set_option linter.unusedVariables false
set_option maxHeartbeats 8000000
set_option maxRecDepth 100000
section
namespace Go.Proofs.YtbhoknnjilidnaaGreatDoor.Seg
open Go.Proofs.YtbhoknnjilidnaaGreatDoor.Mem
open Go.Proofs.YtbhoknnjilidnaaGreatDoor.Disk (Nm File St Eff Has grow errV used lenOf run)
open Go.ChangeShapes Go.WideShapes Go.ChangeAt Go.RowKit
section
variable {w w1 w2:World} {p:Nat} {S S1 S2:St} {F F1 F2:Nat→Prop}
def FormAfter (w:World) (p:Nat) (F:Nat→Prop) (S':St) (v:Value) (e:Ending) (w':World):Prop:=(∃ F',Step w p F S' w' F')∧e = .returned (.tuple #[noMan,v])
def OMSays (w:World) (p:Nat) (F:Nat→Prop) (S1:St) (o:Option (List Nat × Nat × Bool)) (e:Ending) (w':World):Prop :=
 match o with
 | none=>FormAfter w p F S1 form e w'
 | some x=>if kept x.2.1 x.1=[] then FormAfter w p F S1 form e w' else ManAfter w p F (run (opM x.2.1 (kept x.2.1 x.1) x.2.2) S1) (kept x.2.1 x.1) 0 x.2.2 e w'
def OmS (w:World) (p:Nat) (F F1:Nat→Prop) (S1:St) (b g c:Nat) (ns:List Nat) (base:Nat) (begun:Bool) (W:World):Prop :=
 Disk.Blk W b 67 #[.slice (some ⟨g,0,none⟩) ns.length c,.int .i64 (base:Int),.bool begun]∧Nms W g 0 c ns∧ResAt W w.heap.size∧Step w p F S1 W F1
theorem OmS.below {b g c:Nat} {ns:List Nat} {base:Nat} {begun:Bool} {W W1:World} (h:OmS w p F F1 S1 b g c ns base begun W) (hb:Below W.heap.size W W1):OmS w p F F1 S1 b g c ns base begun W1 :=
 ⟨h.1.but (But.of_below hb) (by have:=h.1.lt;omega),h.2.1.below hb,h.2.2.1.below hb,h.2.2.2.below_ hb⟩
theorem OmS.drew {b g c:Nat} {ns:List Nat} {base:Nat} {begun:Bool} {W:World} (h:OmS w p F F1 S1 b g c ns base begun W):OmS w p F F1 S1 b g c ns base begun W.drew:=h.below ((Below.refl _ W).drew)
theorem openManifest_err (h:Dsk w p S F) (hr:(run (opT (Disk.look nT S.files).isSome) S).1≠0) :
  Calls Tryz.prog 25 #[.pointer (some ⟨p,0,none⟩)] w (FormAfter w p F (run (opT (Disk.look nT S.files).isSome) S).2 (errV (run (opT (Disk.look nT S.files).isSome) S).1)):=by
 have hlt:=h.lt
 have hb0:=(Below.refl _ w).alloc (Nat.le_refl _) (.cells #[.slice none 0 0,.int .i64 0,.bool false] 67)
 have hR:=ResAt.new w
 have c0:=deleteIfThere_any (h.below hb0) ⟨#[116]⟩ (by decide)
 have c1:Calls Tryz.prog 47 #[.pointer (some ⟨p,0,none⟩),.string ⟨#[116]⟩] _ (After _ p F (run (opT (Disk.look nT S.files).isSome) S)):=c0
 clear c0
 obtain ⟨R,hRR⟩:∃ R,R=run (opT (Disk.look nT S.files).isSome) S:=⟨_,rfl⟩
 rw [← hRR] at c1 hr ⊢
 have hv:=errV_bad hr
 unfold After at c1
 unfold FormAfter
 rw [hv] at c1 ⊢
 have H0:=Lib.hid h
 have HR:=Lib.hid hR
 have HB:=Lib.hid hb0
 have HLT:=Lib.hid hlt
 clear h hlt hb0 hR hr hv hRR
 go_enter Tryz.func25,Tryz.ntmps25
 go_wp2_with fail
 refine c1.mono ?_
 rintro e w1 ⟨rfl,hN⟩
 have HS1:=Lib.hid ((Step.new H0.out HB.out).trans hN.step)
 have hnF:¬ F w.heap.size:=fun hk=>by have:=HLT.out _ hk;omega
 have HR1:=Lib.hid (HR.out.but hN.2 hnF)
 have HG:=Lib.hid (not_grow (w1:=w1) hnF HR.out.lt)
 clear c1 hN hnF
 obtain ⟨z0,z1,z2,y0,y1,y2⟩:=HR1.out.cells
 go_wp2
 refine bodyPost_ret (Rec.results_row_tmp rfl _ _ w.heap.size 67 #[.slice none 0 0,.int .i64 0,.bool false] (0,0) _ rfl (HR1.out.set3 _ _ _) Tryz.underlying67 rfl man_size) rfl ?_
 exact ⟨⟨_,HS1.out.but (but_set3 _ _ _ _ _) (fun k hk=>by rw [show k=w.heap.size from hk];exact HG.out) (fun k hk=>Nat.le_of_eq (show k=w.heap.size from hk).symm)⟩,rfl⟩
theorem openManifest_ok (h:Dsk w p S F) (hd:S.down=false) (hr:(run (opT (Disk.look nT S.files).isSome) S).1=0) {f:File} (hl:Disk.look nM S.files=some f) (hby:Bytes f.bytes) (hcn:∀ x,manOf f.bytes=some x→x.1.length≤4000) :
  Calls Tryz.prog 25 #[.pointer (some ⟨p,0,none⟩)] w (OMSays w p F (run (opT (Disk.look nT S.files).isSome) S).2 (manOf f.bytes)):=by
 have hlt:=h.lt
 have hb0:=(Below.refl _ w).alloc (Nat.le_refl _) (.cells #[.slice none 0 0,.int .i64 0,.bool false] 67)
 have hR:=ResAt.new w
 have c0:=deleteIfThere_any (h.below hb0) ⟨#[116]⟩ (by decide)
 have c1:Calls Tryz.prog 47 #[.pointer (some ⟨p,0,none⟩),.string ⟨#[116]⟩] _ (After _ p F (run (opT (Disk.look nT S.files).isSome) S)):=c0
 clear c0
 obtain ⟨hfl,hdn,_⟩:=run_files hd hr
 have hl1:Disk.look nM (run (opT (Disk.look nT S.files).isSome) S).2.files=some f:=by
  rw [hfl]
  unfold opT
  split
  ·show Disk.look nM (Disk.del nT S.files)=_
   rw [Disk.look_del_other t_m.symm];exact hl
  ·exact hl
 have ht1:Disk.look nT (run (opT (Disk.look nT S.files).isSome) S).2.files=none:=by
  rw [hfl]
  unfold opT
  cases e:Disk.look nT S.files with
  | none=>exact e
  | some f=>exact Disk.look_del_same
 unfold After at c1
 rw [errV_ok hr] at c1
 obtain ⟨S1,hS1⟩:∃ S1,S1=(run (opT (Disk.look nT S.files).isSome) S).2:=⟨_,rfl⟩
 rw [← hS1] at c1 hdn hl1 ht1 ⊢
 obtain ⟨M,hM⟩:∃ M,M=manOf f.bytes:=⟨_,rfl⟩
 rw [← hM] at hcn ⊢
 have H0:=Lib.hid h
 have HR:=Lib.hid hR
 have HB:=Lib.hid hb0
 have HLT:=Lib.hid hlt
 have HL1:=Lib.hid (And.intro hl1 (And.intro hdn (And.intro hby ht1)))
 have HM:=Lib.hid hM
 have HCN:=Lib.hid hcn
 clear h hlt hb0 hR hr hd hl hby hcn hfl hdn hl1 ht1 hS1 hM
 go_enter Tryz.func25,Tryz.ntmps25
 go_wp2_with fail
 refine c1.mono ?_
 rintro e w1 ⟨rfl,hN⟩
 have HS1:=Lib.hid ((Step.new H0.out HB.out).trans hN.step)
 have hnF:¬ F w.heap.size:=fun hk=>by have:=HLT.out _ hk;omega
 have HR1:=Lib.hid (HR.out.but hN.2 hnF)
 obtain ⟨F1,hF1⟩:∃ F1,F1=grow F (w.alloc (.cells #[.slice none 0 0,.int .i64 0,.bool false] 67)) w1:=⟨_,rfl⟩
 have hg:=not_grow (w1:=w1) hnF HR.out.lt
 rw [← hF1] at hg
 have HG:=Lib.hid hg
 rw [← hF1] at HS1
 clear c1 hN hnF hg hF1
 have c2:=isThere_any HS1.out.1 ⟨#[109]⟩
 rw [show (⟨#[109]⟩:ByteArray).data.toList=nM from rfl,HL1.out.1] at c2
 go_wp2_with fail
 refine c2.mono ?_
 rintro e w2 ⟨rfl,hb2⟩
 have HS2:=Lib.hid (HS1.out.below_ hb2)
 have HR2:=Lib.hid (HR1.out.below hb2)
 clear c2 hb2
 have c3:=readManifest_any HS2.out.1 HL1.out.2.1 HL1.out.1 HL1.out.2.2.1
 rw [← HM.out] at c3
 have HWL:=Lib.hid (show w.heap.size < w2.heap.size from HR2.out.lt)
 cases M with
 | none =>
  have c3:Calls Tryz.prog 50 #[.pointer (some ⟨p,0,none⟩)] w2 fun e w'=>e = .returned (.tuple #[.agg #[.slice none 0 0,.int .i64 0,.bool false],.iface 33 (.int .i64 2)])∧Below w2.heap.size w2 w':=c3
  go_wp2_with fail
  refine c3.mono ?_
  rintro e w3 ⟨rfl,hb3⟩
  have hb4:=hb3.alloc hb3.size (.cells #[.slice none 0 0,.int .i64 0,.bool false] 67)
  have HS3:=Lib.hid (HS2.out.below_ hb4)
  have HR3:=Lib.hid (HR2.out.below hb4)
  clear c3 hb3 hb4
  obtain ⟨z0,z1,z2,y0,y1,y2⟩:=HR3.out.cells
  go_wp2
  refine bodyPost_ret (Rec.results_row_tmp rfl _ _ w.heap.size 67 #[.slice none 0 0,.int .i64 0,.bool false] (0,0) _ rfl (HR3.out.set3 _ _ _) Tryz.underlying67 rfl man_size) rfl ?_
  exact ⟨⟨_,HS3.out.but (but_set3 _ _ _ _ _) (fun k hk=>by rw [show k=w.heap.size from hk];exact HG.out) (fun k hk=>Nat.le_of_eq (show k=w.heap.size from hk).symm)⟩,rfl⟩
 | some x =>
  obtain ⟨ns,base,begun⟩:=x
  have hns:=HCN.out _ rfl
  simp only at hns
  obtain ⟨hNu,hi32,hb32,_⟩:=manOf_is HL1.out.2.2.1 HM.out.symm
  have hnl:0 < ns.length:=List.length_pos_iff.2 hNu.some_
  have c3:Calls Tryz.prog 50 #[.pointer (some ⟨p,0,none⟩)] w2 fun e w'=>(∃ g c,e = .returned (.tuple #[.agg #[.slice (some ⟨g,0,none⟩) ns.length c,.int .i64 (base:Int),.bool begun],.nilIface])∧Nms w' g 0 c ns∧w2.heap.size≤g)∧Below w2.heap.size w2 w':=c3
  have HNU:=Lib.hid hNu
  have HI:=Lib.hid hi32
  clear hi32 hNu
  by_cases hb0:base=0
  ·subst hb0
   have hkp:kept 0 ns=ns:=kept_zero ns
   have HK:=Lib.hid hkp
   clear hkp
   go_wp2_with fail
   refine c3.mono ?_
   rintro e w3 ⟨⟨g,c,rfl,hN3,hg3⟩,hb3⟩
   have hb4:=hb3.alloc hb3.size (.cells #[.slice (some ⟨g,0,none⟩) ns.length c,.int .i64 0,.bool begun] 67)
   have HS3:=Lib.hid (HS2.out.below_ hb4)
   have HR3:=Lib.hid (HR2.out.below hb4)
   have HN3:=Lib.hid (hN3.below ((Below.refl _ w3).alloc (Nat.le_refl _) (.cells #[.slice (some ⟨g,0,none⟩) ns.length c,.int .i64 0,.bool begun] 67)))
   clear c3 hb3 hb4 hN3
   obtain ⟨z0,z1,z2,y0,y1,y2⟩:=HR3.out.cells
   go_wp2
   refine bodyPost_ret (Rec.results_row_tmp rfl _ _ w.heap.size 67 #[.slice (some ⟨g,0,none⟩) ns.length c,.int .i64 0,.bool begun] (0,0) _ rfl (HR3.out.set3 _ _ _) Tryz.underlying67 rfl man_size) rfl ?_
   unfold OMSays
   simp only [HK.out]
   rw [if_neg HNU.out.some_]
   have hgF:¬ F1 g:=fun hk=>by have:=HS2.out.1.lt g hk;omega
   exact ⟨_,HS3.out.but (but_set3 _ _ _ _ _) (fun k hk=>by rw [show k=w.heap.size from hk];exact HG.out) (fun k hk=>Nat.le_of_eq (show k=w.heap.size from hk).symm),.inl ⟨rfl,g,c,rfl,HN3.out.but (but_set3 _ _ _ _ _) (by have:=HWL.out;omega),by have:=HWL.out;omega,hgF⟩⟩
  ·have tb:((base:Int) == 0)=false:=by rw [beq_eq_false_iff_ne];omega
   obtain ⟨K,hK⟩:∃ K,K=ns.countP fun i=>decide (i < base):=⟨_,rfl⟩
   have hkp:ns.take K=kept base ns:=by rw [hK,(take_below HNU.out.rising base).1];unfold kept below;rw [if_neg hb0]
   have hKl:K≤ns.length:=by rw [hK];exact List.countP_le_length
   have hkl:(kept base ns).length=K:=by rw [← hkp,List.length_take];omega
   go_wp2_with fail
   refine c3.mono ?_
   rintro e w3 ⟨⟨g,c,rfl,hN3,hg3⟩,hb3⟩
   have hal:=(Below.refl _ w3).alloc (Nat.le_refl _) (.cells #[.slice (some ⟨g,0,none⟩) ns.length c,.int .i64 (base:Int),.bool begun] 67)
   have hOm:OmS w p F F1 S1 w3.heap.size g c ns base begun (w3.alloc (.cells #[.slice (some ⟨g,0,none⟩) ns.length c,.int .i64 (base:Int),.bool begun] 67)):=⟨Disk.Blk.new _ _ _,hN3.below hal,(HR2.out.below hb3).below hal,(HS2.out.below_ hb3).below_ hal⟩
   have HOM:=Lib.hid hOm
   obtain ⟨W,hW⟩:∃ W,W=w3.alloc (.cells #[.slice (some ⟨g,0,none⟩) ns.length c,.int .i64 (base:Int),.bool begun] 67):=⟨_,rfl⟩
   rw [← hW] at HOM
   obtain ⟨b,hbz⟩:∃ b,b=w3.heap.size:=⟨_,rfl⟩
   rw [← hbz] at HOM
   have HBG:=Lib.hid (show w2.heap.size≤b∧g < b from ⟨by rw [hbz];exact hb3.size,by rw [hbz];exact hN3.lt⟩)
   have m1:W.cell? ⟨b,1,none⟩=some _:=HOM.out.1.cell 1
   have HG3:=Lib.hid hg3
   have HKK:=Lib.hid (And.intro hK (And.intro hkp (And.intro hKl hkl)))
   clear c3 hb3 hN3 hal hOm hg3 hK hkp hkl
   go_wp2_with fail
   rw [← hW,← hbz]
   clear hW hbz
   go_wp2_with fail
   have c4:=ahead_any HOM.out.drew.2.1 (by omega) HNU.out.rising base base begun
   rw [← HKK.out.1] at c4
   unfold manV at c4
   have tK1:decide ((K:Int) < 0)=false:=decide_eq_false (by omega)
   have hcc:=HOM.out.2.1.fits
   have hcK:K≤c:=by omega
   have HC4:=Lib.hid c4
   clear c4 m1
   refine Late.region_goes (OmS w p F F1 S1 b g c ns base begun) (fun j=>j == 8) (by kernel_rfl) ?_ (fun hH=>?_)
   ·exact HOM.out.drew
   refine Late.tk 0 ?_ ?_ hH ?_;rotate_left 2
   refine Late.tk 1 ?_ ?_ hH ?_;rotate_left 2
   refine Late.tk 2 ?_ ?_ hH ?_;rotate_left 2
   refine Late.tk 3 ?_ ?_ hH ?_;rotate_left 2
   refine Late.tk 4 ?_ ?_ hH ?_;rotate_left 2
   rotate_left
   any_goals (intro wy hSw;(try dsimp only at hSw);obtain ⟨q1,-,-,-⟩:=hSw;have k0:wy.cell? ⟨b,0,none⟩=some _:=q1.cell 0;have k1:wy.cell? ⟨b,1,none⟩=some _:=q1.cell 1;have k2:wy.cell? ⟨b,2,none⟩=some _:=q1.cell 2;go_simp;try (with_reducible rfl))
   try simp only [Act.put,List.setIfInBounds_toArray,List.set_cons_zero,List.set_cons_succ]
   refine Late.Goes.one (i:=5) (by kernel_rfl) (by simp only [List.getElem?_toArray,List.getElem?_cons_succ,List.getElem?_cons_zero];rfl) (fun K hK=>?_)
   clear hH
   go_simp
   go_at_call 51
   refine HC4.out.mono ?_
   rintro e w4 ⟨rfl,hb4⟩
   have HO4:=Lib.hid (HOM.out.drew.below hb4)
   clear hb4 HC4
   refine hK.out _ _ ?_ (fun hH=>?_)
   ·exact fun _=>HO4.out
   clear hK K
   have hH:=hH rfl
   try simp only [Act.put,List.setIfInBounds_toArray,List.set_cons_zero,List.set_cons_succ]
   refine Late.tk 6 ?_ ?_ hH ?_;rotate_left 2
   refine Late.tk 7 ?_ ?_ hH ?_;rotate_left 2
   rotate_left
   any_goals (intro wy hSw;(try dsimp only at hSw);obtain ⟨q1,-,-,-⟩:=hSw;have k0:wy.cell? ⟨b,0,none⟩=some _:=q1.cell 0;have k1:wy.cell? ⟨b,1,none⟩=some _:=q1.cell 1;have k2:wy.cell? ⟨b,2,none⟩=some _:=q1.cell 2;go_simp;try (with_reducible rfl))
   try simp only [Act.put,List.setIfInBounds_toArray,List.set_cons_zero,List.set_cons_succ]
   refine Late.Goes.one (i:=8) (by kernel_rfl) (by simp only [List.getElem?_toArray,List.getElem?_cons_succ,List.getElem?_cons_zero];rfl) (fun K hK=>?_)
   clear hH
   have q1:=HO4.out.1
   have k0:w4.cell? ⟨b,0,none⟩=some _:=q1.cell 0
   have y0:w4.frozen? ⟨b,0,none⟩=false:=q1.frozen 0
   clear q1
   go_simp
   clear k0 y0
   refine hK.out _ _ ?_ (fun _=>?_)
   ·exact fun h=>by cases h
   clear hK K
   try simp only [Act.put,List.setIfInBounds_toArray,List.set_cons_zero,List.set_cons_succ]
   refine Late.Goes.done (by kernel_rfl) ?_ _
   have hbne:w.heap.size≠b:=by have:=HBG.out.1;have:=HWL.out;omega
   have hgne:g≠b:=by have:=HBG.out.2;omega
   have hbF:¬ F1 b:=fun hk=>by have:=HS2.out.1.lt b hk;have:=HBG.out.1;omega
   have hgF:¬ F1 g:=fun hk=>by have:=HS2.out.1.lt g hk;have:=HG3.out;omega
   have hb5:=HO4.out.1.set_ 0 (.slice (some ⟨g,0,none⟩) K c)
   have hbt5:=Disk.but_set w4 b 0 (.slice (some ⟨g,0,none⟩) K c)
   have hO5:OmS w p F F1 S1 b g c ns base begun w4:=HO4.out
   have hR5:=hO5.2.2.1.but hbt5 hbne
   have hN5:=(hO5.2.1.but hbt5 hgne).take K
   rw [HKK.out.2.1] at hN5
   have hS5:=hO5.2.2.2.but hbt5 (fun k hk=>by rw [show k=b from hk];exact hbF) (fun k hk=>by rw [show k=b from hk];have:=HBG.out.1;have:=HWL.out;omega)
   obtain ⟨W5,hW5⟩:∃ W,W=w4.setCell ⟨b,0,none⟩ (.slice (some ⟨g,0,none⟩) K c):=⟨_,rfl⟩
   rw [← hW5] at hb5 hbt5 hR5 hN5 hS5 ⊢
   have hbt6:=Disk.but_set W5 b 1 (.int .i64 0)
   have hb6:=hb5.set_ 1 (.int .i64 0)
   have HR6:=Lib.hid (hR5.but hbt6 hbne)
   have HN6:=Lib.hid (hN5.but hbt6 hgne)
   have HS6:=Lib.hid (hS5.but hbt6 (fun k hk=>by rw [show k=b from hk];exact hbF) (fun k hk=>by rw [show k=b from hk];have:=HBG.out.1;have:=HWL.out;omega))
   have HBG6:=Lib.hid (And.intro hbF hgF)
   have HNE:=Lib.hid (And.intro hbne hgne)
   have k0:W5.cell? ⟨b,0,none⟩=some _:=hb5.cell 0
   have k1:W5.cell? ⟨b,1,none⟩=some _:=hb5.cell 1
   have k2:W5.cell? ⟨b,2,none⟩=some _:=hb5.cell 2
   have f1:W5.frozen? ⟨b,1,none⟩=false:=hb5.frozen 1
   have HB6:=Lib.hid (show Disk.Blk (W5.setCell ⟨b,1,none⟩ (.int .i64 0)) b 67 #[.slice (some ⟨g,0,none⟩) K c,.int .i64 0,.bool begun] from hb6)
   clear hW5 hb5 hbt5 hO5 hR5 hN5 hS5 hbt6 hb6 hbne hgne hbF hgF HO4
   by_cases hK0:K=0
   ·have tK:((K:Int) == 0)=true:=by rw [beq_iff_eq];omega
    have HK0:=Lib.hid (show kept base ns=[] from List.eq_nil_of_length_eq_zero (by rw [HKK.out.2.2.2];exact hK0))
    clear hK0
    obtain ⟨z0,z1,z2,y0,y1,y2⟩:=HR6.out.cells
    go_wp2
    refine bodyPost_ret (Rec.results_row_tmp rfl _ _ w.heap.size 67 #[.slice none 0 0,.int .i64 0,.bool false] (0,0) _ rfl (HR6.out.set3 _ _ _) Tryz.underlying67 rfl man_size) rfl ?_
    unfold OMSays
    simp only
    rw [if_pos HK0.out]
    exact ⟨⟨_,HS6.out.but (but_set3 _ _ _ _ _) (fun k hk=>by rw [show k=w.heap.size from hk];exact HG.out) (fun k hk=>Nat.le_of_eq (show k=w.heap.size from hk).symm)⟩,rfl⟩
   ·have tK:((K:Int) == 0)=false:=by rw [beq_eq_false_iff_ne];omega
    have c6:=switchTo_any HS6.out.1 HL1.out.2.2.2 HN6.out (by rw [HKK.out.2.2.2];omega) (fun i hi=>by have:=HI.out i (mem_kept hi);omega) 0 (by omega) begun
    rw [HKK.out.2.2.2] at c6
    unfold manV at c6
    have HKN:=Lib.hid (show kept base ns≠[] from fun h=>hK0 (by rw [← HKK.out.2.2.2,h];rfl))
    have hom:opM base (kept base ns) begun=sw (manFile (kept base ns) 0 begun):=if_neg hb0
    have HOMQ:=Lib.hid hom
    obtain ⟨W6,hW6⟩:∃ W,W=W5.setCell ⟨b,1,none⟩ (.int .i64 0):=⟨_,rfl⟩
    have g0:W6.cell? ⟨b,0,none⟩=some _:=hW6 ▸ HB6.out.cell 0
    rw [← hW6] at c6 HB6 HR6 HN6 HS6
    clear hK0 hom
    go_wp2_with fail
    rw [← hW6]
    clear hW6
    by_cases e6:(run (sw (manFile (kept base ns) 0 begun)) S1).1=0
    ·have HE6:=Lib.hid e6
     unfold After at c6
     rw [errV_ok e6] at c6
     clear e6
     refine c6.mono ?_
     rintro e w7 ⟨rfl,hN7⟩
     have HS7:=Lib.hid (HS6.out.trans hN7.step)
     have HR7:=Lib.hid (HR6.out.but hN7.2 HG.out)
     have HN7:=Lib.hid (HN6.out.but hN7.2 HBG6.out.2)
     have hb7:=HB6.out.but hN7.2 HBG6.out.1
     have k0':w7.cell? ⟨b,0,none⟩=some _:=hb7.cell 0
     have k1':w7.cell? ⟨b,1,none⟩=some _:=hb7.cell 1
     have k2':w7.cell? ⟨b,2,none⟩=some _:=hb7.cell 2
     have HG7:=Lib.hid (show ¬ grow F1 W6 w7 w.heap.size from not_grow HG.out HR6.out.lt)
     have HG8:=Lib.hid (show ¬ grow F1 W6 w7 g from not_grow HBG6.out.2 HN6.out.lt)
     clear c6 hN7 hb7
     obtain ⟨z0,z1,z2,y0,y1,y2⟩:=HR7.out.cells
     go_wp2
     refine bodyPost_ret (Rec.results_row_tmp rfl _ _ w.heap.size 67 #[.slice (some ⟨g,0,none⟩) K c,.int .i64 0,.bool begun] (0,0) _ rfl (HR7.out.set3 _ _ _) Tryz.underlying67 rfl man_size) rfl ?_
     unfold OMSays
     simp only
     rw [if_neg HKN.out,HOMQ.out]
     unfold ManAfter
     rw [HKK.out.2.2.2]
     exact ⟨_,HS7.out.but (but_set3 _ _ _ _ _) (fun k hk=>by rw [show k=w.heap.size from hk];exact HG7.out) (fun k hk=>Nat.le_of_eq (show k=w.heap.size from hk).symm),.inl ⟨HE6.out,g,c,rfl,HN7.out.but (but_set3 _ _ _ _ _) (by have:=HWL.out;have:=HG3.out;omega),by have:=HWL.out;have:=HG3.out;omega,HG8.out⟩⟩
    ·have hv:=errV_bad e6
     unfold After at c6
     rw [hv] at c6
     have HV:=Lib.hid (And.intro e6 hv)
     clear e6 hv
     refine c6.mono ?_
     rintro e w7 ⟨rfl,hN7⟩
     have HS7:=Lib.hid (HS6.out.trans hN7.step)
     have HR7:=Lib.hid (HR6.out.but hN7.2 HG.out)
     have HG7:=Lib.hid (show ¬ grow F1 W6 w7 w.heap.size from not_grow HG.out HR6.out.lt)
     clear c6 hN7
     obtain ⟨z0,z1,z2,y0,y1,y2⟩:=HR7.out.cells
     go_wp2
     refine bodyPost_ret (Rec.results_row_tmp rfl _ _ w.heap.size 67 #[.slice none 0 0,.int .i64 0,.bool false] (0,0) _ rfl (HR7.out.set3 _ _ _) Tryz.underlying67 rfl man_size) rfl ?_
     unfold OMSays
     simp only
     rw [if_neg HKN.out,HOMQ.out]
     exact ⟨_,HS7.out.but (but_set3 _ _ _ _ _) (fun k hk=>by rw [show k=w.heap.size from hk];exact HG7.out) (fun k hk=>Nat.le_of_eq (show k=w.heap.size from hk).symm),.inr ⟨HV.out.1,by rw [HV.out.2];rfl⟩⟩
end
end Go.Proofs.YtbhoknnjilidnaaGreatDoor.Seg
end
section
namespace Go.Proofs.YtbhoknnjilidnaaGreatDoor.Seg
open Go.Proofs.YtbhoknnjilidnaaGreatDoor.Mem
open Go.Proofs.YtbhoknnjilidnaaGreatDoor.Disk (Nm File St Eff Has grow errV used lenOf run)
open Go.ChangeShapes Go.WideShapes Go.ChangeAt Go.RowKit
section
variable {w w1 w2:World} {p:Nat} {S S1 S2:St} {F F1 F2:Nat→Prop}
theorem openManifest_first (h:Dsk w p S F) (hf:S.files=[]) :
  Calls Tryz.prog 25 #[.pointer (some ⟨p,0,none⟩)] w (ManAfter w p F (run (rotA 1 (manFile [1] 0 false)) S) [1] 0 false):=by
 have hlt:=h.lt
 have hb0:=(Below.refl _ w).alloc (Nat.le_refl _) (.cells #[.slice none 0 0,.int .i64 0,.bool false] 67)
 have hR:=ResAt.new w
 have c0:=deleteIfThere_any (h.below hb0) ⟨#[116]⟩ (by decide)
 have hlk:Disk.look (⟨#[116]⟩:ByteArray).data.toList S.files=none:=by rw [hf];rfl
 rw [hlk] at c0
 have c1:Calls Tryz.prog 47 #[.pointer (some ⟨p,0,none⟩),.string ⟨#[116]⟩] _ fun e w'=>e = .returned .nilIface∧Next _ p F S w':=c0
 have H0:=Lib.hid h
 have HR:=Lib.hid hR
 have HB:=Lib.hid hb0
 have HLT:=Lib.hid hlt
 have HF:=Lib.hid hf
 obtain ⟨R,hRR⟩:∃ R,R=run (rotA 1 (manFile [1] 0 false)) S:=⟨_,rfl⟩
 rw [← hRR]
 have HRR:=Lib.hid hRR
 clear h hlt hb0 hR c0 hlk hf hRR
 go_enter Tryz.func25,Tryz.ntmps25
 go_wp2_with fail
 refine c1.mono ?_
 rintro e w1 ⟨rfl,hN⟩
 have HS1:=Lib.hid ((Step.new H0.out HB.out).trans hN.step)
 have hnF:¬ F w.heap.size:=fun hk=>by have:=HLT.out _ hk;omega
 have HR1:=Lib.hid (HR.out.but hN.2 hnF)
 obtain ⟨F1,hF1⟩:∃ F1,F1=grow F (w.alloc (.cells #[.slice none 0 0,.int .i64 0,.bool false] 67)) w1:=⟨_,rfl⟩
 have hg:=not_grow (w1:=w1) hnF HR.out.lt
 rw [← hF1] at hg
 have HG:=Lib.hid hg
 rw [← hF1] at HS1
 clear c1 hN hnF hg hF1
 have c2:=isThere_any HS1.out.1 ⟨#[109]⟩
 rw [HF.out] at c2
 have c2:Calls Tryz.prog 48 #[.pointer (some ⟨p,0,none⟩),.string ⟨#[109]⟩] w1 fun e w'=>e = .returned (.bool false)∧Below w1.heap.size w1 w':=c2
 go_wp2_with fail
 refine c2.mono ?_
 rintro e w2 ⟨rfl,hb2⟩
 have HS2:=Lib.hid (HS1.out.below_ hb2)
 have HR2:=Lib.hid (HR1.out.below hb2)
 clear c2 hb2
 have c3:=firstManifest_any HS2.out.1 HF.out
 rw [← HRR.out] at c3
 have c3:Calls Tryz.prog 49 #[.pointer (some ⟨p,0,none⟩)] w2 fun e w'=>∃ F',Step w2 p F1 R.2 w' F'∧((R.1=0∧∃ g c,e = .returned (.tuple #[.agg #[.slice (some ⟨g,0,none⟩) 1 c,.int .i64 0,.bool false],.nilIface])∧Nms w' g 0 c [1]∧w2.heap.size≤g∧¬ F' g)∨(R.1≠0∧e = .returned (.tuple #[.agg #[.slice none 0 0,.int .i64 0,.bool false],errV R.1]))):=c3
 have HWL:=Lib.hid (show w.heap.size < w2.heap.size from HR2.out.lt)
 go_wp2_with fail
 refine c3.mono ?_
 rintro e w3 ⟨F3,hS3,hc⟩
 have HS3:=Lib.hid (HS2.out.trans hS3)
 have HR3:=Lib.hid (HR2.out.but hS3.2.2 HG.out)
 have hG3:¬ F3 w.heap.size:=fun hk=>by
  rcases hS3.2.1 _ hk with h1|h1
  ·exact HG.out h1
  ·have:=HWL.out;omega
 have HG3:=Lib.hid hG3
 clear c3 hS3 hG3
 obtain ⟨z0,z1,z2,y0,y1,y2⟩:=HR3.out.cells
 rcases hc with ⟨hr0,g,c,rfl,hN3,hg3,hgF⟩|⟨hr0,rfl⟩
 ·have HN3:=Lib.hid (And.intro hN3 (And.intro hg3 (And.intro hgF hr0)))
  clear hN3 hg3 hgF hr0
  go_wp2
  refine bodyPost_ret (Rec.results_row_tmp rfl _ _ w.heap.size 67 #[.slice (some ⟨g,0,none⟩) 1 c,.int .i64 0,.bool false] (0,0) _ rfl (HR3.out.set3 _ _ _) Tryz.underlying67 rfl man_size) rfl ?_
  exact ⟨_,HS3.out.but (but_set3 _ _ _ _ _) (fun k hk=>by rw [show k=w.heap.size from hk];exact HG3.out) (fun k hk=>Nat.le_of_eq (show k=w.heap.size from hk).symm),.inl ⟨HN3.out.2.2.2,g,c,rfl,HN3.out.1.but (but_set3 _ _ _ _ _) (by have:=HWL.out;have:=HN3.out.2.1;omega),by have:=HWL.out;have:=HN3.out.2.1;omega,HN3.out.2.2.1⟩⟩
 ·have HN3:=Lib.hid hr0
  clear hr0
  go_wp2
  refine bodyPost_ret (Rec.results_row_tmp rfl _ _ w.heap.size 67 #[.slice none 0 0,.int .i64 0,.bool false] (0,0) _ rfl (HR3.out.set3 _ _ _) Tryz.underlying67 rfl man_size) rfl ?_
  exact ⟨_,HS3.out.but (but_set3 _ _ _ _ _) (fun k hk=>by rw [show k=w.heap.size from hk];exact HG3.out) (fun k hk=>Nat.le_of_eq (show k=w.heap.size from hk).symm),.inr ⟨HN3.out,rfl⟩⟩
end
end Go.Proofs.YtbhoknnjilidnaaGreatDoor.Seg
end

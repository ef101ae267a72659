/- Contract: a log gets one segment more. -/
import Derived.Test.YtbhoknnjilidnaaGreatDoorG34
set_option linter.unusedSimpArgs false
set_option linter.unusedVariables false
set_option maxHeartbeats 8000000
set_option maxRecDepth 100000
namespace Go.Proofs.YtbhoknnjilidnaaGreatDoor.Seg
open Go.Proofs.YtbhoknnjilidnaaGreatDoor.Mem
open Go.Proofs.YtbhoknnjilidnaaGreatDoor.Disk (Nm File St Eff Has grow errV used lenOf run)
open Go.ChangeShapes Go.WideShapes Go.ChangeAt Go.RowKit
section
variable {w w1 w2:World} {p lb g c g' c':Nat} {S S1 S2:St} {F F1 F2:Nat→Prop} {limit:Int} {nums nums':List Nat} {base base':Nat} {begun begun':Bool} {zs:List Nat} {vz:Value}
structure Kept (w w':World) (lb:Nat) (F F1:Nat→Prop) (vz vz':Value):Prop where
 sub:∀ j,F1 j→grow F w w' j
 but:But (fun j=>F j∨j=lb∨vz.ownBlock=some j) w w'
 own:∀ j,vz'.ownBlock=some j→vz.ownBlock=some j∨w.heap.size≤j
theorem SysAt.lt (h:SysAt w p lb S limit nums base begun zs false F g c vz):∀ k,foot lb g vz F k→k < w.heap.size:=by
 rintro k (hk|rfl|rfl|hk)
 ·exact h.dsk.lt k hk
 ·exact h.log.lt
 ·exact h.nms.lt
 ·exact (h.siz.lt k hk).2
theorem SysAt.below {failed:Bool} (h:SysAt w p lb S limit nums base begun zs failed F g c vz) (hb:Below w.heap.size w w1):SysAt w1 p lb S limit nums base begun zs failed F g c vz :=
 ⟨h.dsk.below hb,h.log.but (But.of_below hb) (by have:=h.log.lt;omega),h.nms.below hb,ownsRow_but h.siz (But.of_new hb (S:=fun _=>False)) (fun _ _ e=>e),h.flb,h.fg,h.fz,h.gl⟩
theorem SysAt.disk {failed:Bool} (h:SysAt w p lb S limit nums base begun zs failed F g c vz) (hN:Next w p F S1 w1):SysAt w1 p lb S1 limit nums base begun zs failed (grow F w w1) g c vz :=
 ⟨hN.1,h.log.but hN.2 h.flb,h.nms.but hN.2 h.fg,ownsRow_but h.siz hN.2 (fun k hk=>(h.fz k hk).1),not_grow h.flb h.log.lt,not_grow h.fg h.nms.lt,fun k hk=>⟨not_grow (h.fz k hk).1 (h.siz.lt k hk).2,(h.fz k hk).2⟩,h.gl⟩
def GrowAfter (w:World) (p lb:Nat) (F:Nat→Prop) (limit:Int) (nums:List Nat) (base:Nat) (begun:Bool) (zs:List Nat) (g c:Nat) (vz:Value) (nums':List Nat) (base':Nat) (begun':Bool) (g' c':Nat) (r:Int × St) (e:Ending) (w':World):Prop :=
 ∃ F1 vz',Kept w w' lb F F1 vz vz'∧((r.1=0∧e = .returned .nilIface∧SysAt w' p lb r.2 limit nums' base' begun' (zs++[0]) false F1 g' c' vz')∨(r.1≠0∧e = .returned (errV r.1)∧SysAt w' p lb r.2 limit nums base begun zs false F1 g c vz'))
theorem Kept.refl (hb:Below w.heap.size w w1) (hlt:∀ k,F k→k < w.heap.size):Kept w w1 lb F F vz vz:=⟨fun j hj => .inl hj,But.of_new hb,fun j hj => .inl hj⟩
theorem Kept.disk (h:Kept w w1 lb F F1 vz vz) (hN:But F1 w1 w2):Kept w w2 lb F (grow F1 w1 w2) vz vz:=by
 have s1:=h.but.size
 have s2:=hN.size
 refine ⟨fun j hj=>?_,h.but.trans hN (fun i hi hF=>?_),h.own⟩
 ·rcases hj with hj|hj
  ·rcases h.sub j hj with h1|h1
   ·exact .inl h1
   ·exact .inr ⟨h1.1,by omega⟩
  ·exact .inr ⟨by omega,hj.2⟩
 ·rcases h.sub i hF with h1|h1
  ·exact .inl h1
  ·omega
theorem Kept.below (h:Kept w w1 lb F F1 vz vz) (hb:Below w1.heap.size w1 w2):Kept w w2 lb F F1 vz vz :=
 ⟨fun j hj=>by
  have:=hb.size
  rcases h.sub j hj with h1|h1
  ·exact .inl h1
  ·exact .inr ⟨h1.1,by omega⟩,h.but.trans (But.of_new hb (S:=fun _=>False)) (fun _ _ e=>e.elim),h.own⟩
theorem grow_log (h:SysAt w p lb S limit nums base begun zs false F g c vz) (hm:Nms w g' 0 c' nums') (hgF:¬ F g') (hgl:g'≠lb) (hgz:vz.ownBlock≠some g') {L:Nat} (hL:nums'.getLast?=some L) (hL1:L < 100) (hnl:nums'.length≤1000) (hi:∀ i ∈ nums',i < 4294967296) (hb':base' < 4294967296) (hT:Disk.look nT S.files=none) (hz:zs.length≤1000) :
  Calls Tryz.prog 33 #[.pointer (some ⟨lb,0,none⟩),manV g' 0 nums'.length c' base' begun'] w (GrowAfter w p lb F limit nums base begun zs g c vz nums' base' begun' g' c' (run (rotA L (manFile nums' base' begun')) S)):=by
 obtain ⟨i2,hi2,hx0,hx1,hx2⟩:=info_parts Torn.int_info
 obtain ⟨az,nz,cz,rfl⟩:=own_any h.siz
 have hlt:=h.lt
 have hbA:=(Below.refl _ w).alloc (Nat.le_refl _) (.cells #[.slice (some ⟨g',0,none⟩) nums'.length c',.int .i64 (base':Int),.bool begun'] 67)
 have hbx:Disk.Blk (w.alloc (.cells #[.slice (some ⟨g',0,none⟩) nums'.length c',.int .i64 (base':Int),.bool begun'] 67)) w.heap.size 67 #[.slice (some ⟨g',0,none⟩) nums'.length c',.int .i64 (base':Int),.bool begun']:=Disk.Blk.new _ _ _
 have hA:=h.below hbA
 have hmA:=hm.below hbA
 obtain ⟨R,hR⟩:∃ R,R=run (rotA L (manFile nums' base' begun')) S:=⟨_,rfl⟩
 rw [← hR]
 have HR:=Lib.hid hR
 obtain ⟨b,hbz⟩:∃ b,b=w.heap.size:=⟨_,rfl⟩
 obtain ⟨W,hW⟩:∃ W,W=w.alloc (.cells #[.slice (some ⟨g',0,none⟩) nums'.length c',.int .i64 (base':Int),.bool begun'] 67):=⟨_,rfl⟩
 rw [← hW] at hbA hbx hA hmA
 have hWs:W.heap.size=w.heap.size+1:=by rw [hW];simp
 have HA:=Lib.hid hA
 have HMA:=Lib.hid hmA
 have HBX:=Lib.hid (show Disk.Blk W b 67 #[.slice (some ⟨g',0,none⟩) nums'.length c',.int .i64 (base':Int),.bool begun'] from hbz ▸ hbx)
 have HBA:=Lib.hid hbA
 have H0:=Lib.hid (And.intro h (And.intro hgF (And.intro hgl (And.intro hgz (And.intro hL (And.intro hi (And.intro hT hlt)))))))
 have HZ:=Lib.hid (And.intro hWs hbz)
 have HK0:=Lib.hid (Kept.refl (lb:=lb) (vz := .slice az nz cz) hbA h.dsk.lt)
 have HTY:=Lib.hid (show ∀ (V:World) (n:Nat) (xs:List Value) (base:Nat) (v:Value) (bb:Nat) (tt:TypeId) (cs:Array Value),V.ownsRow base 3 1 v n xs→Disk.Blk V bb tt cs→3≠tt→v.ownBlock≠some bb from fun V n xs base v bb tt cs h1 h2 h3=>Disk.own_blk_ne h1 h2 h3)
 clear h hm hgF hgl hgz hL hi hT hlt hbA hbx hA hmA hR hWs
 unfold manV
 go_enter Tryz.func33,Tryz.ntmps33
 go_wp2_with fail
 rw [← hW,← hbz]
 clear hW hbz
 refine Late.region_goes (fun V=>V.cell? ⟨lb,0,none⟩=some (.pointer (some ⟨p,0,none⟩))∧Disk.Blk V b 67 #[.slice (some ⟨g',0,none⟩) nums'.length c',.int .i64 (base':Int),.bool begun']) (fun _=>false) (by kernel_rfl) ?_ (fun hH=>?_)
 ·exact ⟨(HA.out.below ((Below.refl _ W).drew)).log.cell 0,HBX.out.but ((But.refl (fun _=>False) W).drew) (fun h=>h)⟩
 refine Late.tk 0 ?_ ?_ hH ?_;rotate_left 2
 refine Late.tk 1 ?_ ?_ hH ?_;rotate_left 2
 refine Late.tk 2 ?_ ?_ hH ?_;rotate_left 2
 refine Late.tk 3 ?_ ?_ hH ?_;rotate_left 2
 refine Late.tk 4 ?_ ?_ hH ?_;rotate_left 2
 rotate_left
 any_goals (intro wy hSw;(try dsimp only at hSw);have k0:=hSw.1;have m0:wy.cell? ⟨b,0,none⟩=some _:=hSw.2.cell 0;have m1:wy.cell? ⟨b,1,none⟩=some _:=hSw.2.cell 1;have m2:wy.cell? ⟨b,2,none⟩=some _:=hSw.2.cell 2;go_simp;try (with_reducible rfl))
 try simp only [Act.put,List.setIfInBounds_toArray,List.set_cons_zero,List.set_cons_succ]
 refine Late.Goes.one (i:=5) (by kernel_rfl) (by simp only [List.getElem?_toArray,List.getElem?_cons_succ,List.getElem?_cons_zero];rfl) (fun K hK=>?_)
 clear hH
 go_simp
 go_at_call 30
 have c5:=last_any (HMA.out.below ((Below.refl _ W).drew)) H0.out.2.2.2.2.1 base' begun'
 unfold manV at c5
 refine c5.mono ?_
 rintro e w1 ⟨rfl,hb1⟩
 have hb1:=((Below.refl _ W).drew).trans hb1
 have HA1:=Lib.hid (HA.out.below hb1)
 have HM1:=Lib.hid (HMA.out.below hb1)
 have HX1:=Lib.hid (HBX.out.but (But.of_new hb1 (S:=fun _=>False)) (fun h=>h))
 have HK1:=Lib.hid (HK0.out.below hb1)
 clear c5 hb1
 refine hK.out _ _ ?_ (fun hH=>?_)
 ·exact fun _=>⟨HA1.out.log.cell 0,HX1.out⟩
 clear hK K
 have hH:=hH rfl
 try simp only [Act.put,List.setIfInBounds_toArray,List.set_cons_zero,List.set_cons_succ]
 refine Late.Goes.one (i:=6) (by kernel_rfl) (by simp only [List.getElem?_toArray,List.getElem?_cons_succ,List.getElem?_cons_zero];rfl) (fun K hK=>?_)
 clear hH
 go_simp
 go_at_call 44
 refine (segmentFile_any (w:=w1) L (by omega) (.inl hL1)).mono ?_
 rintro e w2 ⟨rfl,hb2⟩
 have HA2:=Lib.hid (HA1.out.below hb2)
 have HM2:=Lib.hid (HM1.out.below hb2)
 have HX2:=Lib.hid (HX1.out.but (But.of_new hb2 (S:=fun _=>False)) (fun h=>h))
 have HK2:=Lib.hid (HK1.out.below hb2)
 clear hb2
 refine hK.out _ _ ?_ (fun hH=>?_)
 ·exact fun _=>⟨HA2.out.log.cell 0,HX2.out⟩
 clear hK K
 have hH:=hH rfl
 try simp only [Act.put,List.setIfInBounds_toArray,List.set_cons_zero,List.set_cons_succ]
 have c3:=dsk_new HA2.out.dsk (segB L) (segB_size L (by omega))
 rw [segB_nm] at c3
 have hbF:¬ F b:=fun hF=>by have:=H0.out.1.dsk.lt b hF;have:=HZ.out.2;omega
 by_cases e3:((Eff.new (seg L)).call S).1=0
 ·have HQ3:=Lib.hid (run_cons_ok (r:=sw (manFile nums' base' begun')) e3)
  have HE3:=Lib.hid e3
  unfold After at c3
  rw [errV_ok e3] at c3
  clear e3
  refine Late.Goes.one (i:=7) (by kernel_rfl) (by simp only [List.getElem?_toArray,List.getElem?_cons_succ,List.getElem?_cons_zero];rfl) (fun K hK=>?_)
  clear hH
  go_simp
  go_at_call 59
  refine c3.mono ?_
  rintro e w3 ⟨rfl,hN3⟩
  have HA3:=Lib.hid (HA2.out.disk hN3)
  have HM3:=Lib.hid (HM2.out.but hN3.2 H0.out.2.1)
  have HX3:=Lib.hid (HX2.out.but hN3.2 hbF)
  have HK3:=Lib.hid (HK2.out.disk hN3.2)
  refine hK.out _ _ ?_ (fun hH=>?_)
  ·exact fun _=>⟨HA3.out.log.cell 0,HX3.out⟩
  clear hK K
  have hH:=hH rfl
  try simp only [Act.put,List.setIfInBounds_toArray,List.set_cons_zero,List.set_cons_succ]
  refine Late.tk 8 ?_ ?_ hH ?_;rotate_left 2
  rotate_left
  any_goals (intro wy hSw;(try dsimp only at hSw);have k0:=hSw.1;have m0:wy.cell? ⟨b,0,none⟩=some _:=hSw.2.cell 0;have m1:wy.cell? ⟨b,1,none⟩=some _:=hSw.2.cell 1;have m2:wy.cell? ⟨b,2,none⟩=some _:=hSw.2.cell 2;go_simp;try (with_reducible rfl))
  try simp only [Act.put,List.setIfInBounds_toArray,List.set_cons_zero,List.set_cons_succ]
  refine Late.Goes.done (by kernel_rfl) ?_ _
  have hT3:Disk.look nT ((Eff.new (seg L)).call S).2.files=none:=by
   obtain ⟨q1,q2,q3,q4⟩:=call_files HE3.out
   rw [q1]
   show Disk.look nT (Disk.ins (seg L) ⟨[],0⟩ S.files)=none
   rw [Disk.look_ins_other H0.out.1.dsk.2.rising.apart q4.1 (seg_t L).symm]
   exact H0.out.2.2.2.2.2.2.1
  have HG3:=Lib.hid (show ¬ grow F w2 w3 b∧¬ grow F w2 w3 g' from ⟨not_grow hbF HX2.out.lt,not_grow H0.out.2.1 HM2.out.lt⟩)
  have c4:=fun V (hb:Below w3.heap.size w3 V)=>switchTo_any (HA3.out.dsk.below hb) hT3 (HM3.out.below hb) (by omega) H0.out.2.2.2.2.2.1 base' hb' begun'
  have HC4:=Lib.hid c4
  clear c3 c4 hT3 hN3
  go_wp2_with fail
  refine Late.region_goes (fun V=>V.cell? ⟨lb,0,none⟩=some (.pointer (some ⟨p,0,none⟩))∧Disk.Blk V b 67 #[.slice (some ⟨g',0,none⟩) nums'.length c',.int .i64 (base':Int),.bool begun']) (fun _=>false) (by kernel_rfl) ?_ (fun hH=>?_)
  ·exact ⟨(HA3.out.below ((Below.refl _ w3).drew)).log.cell 0,HX3.out.but ((But.refl (fun _=>False) w3).drew) (fun h=>h)⟩
  refine Late.tk 0 ?_ ?_ hH ?_;rotate_left 2
  refine Late.tk 1 ?_ ?_ hH ?_;rotate_left 2
  refine Late.tk 2 ?_ ?_ hH ?_;rotate_left 2
  refine Late.tk 3 ?_ ?_ hH ?_;rotate_left 2
  refine Late.tk 4 ?_ ?_ hH ?_;rotate_left 2
  rotate_left
  any_goals (intro wy hSw;(try dsimp only at hSw);have k0:=hSw.1;have m0:wy.cell? ⟨b,0,none⟩=some _:=hSw.2.cell 0;have m1:wy.cell? ⟨b,1,none⟩=some _:=hSw.2.cell 1;have m2:wy.cell? ⟨b,2,none⟩=some _:=hSw.2.cell 2;go_simp;try (with_reducible rfl))
  try simp only [Act.put,List.setIfInBounds_toArray,List.set_cons_zero,List.set_cons_succ]
  have c5:=HC4.out w3.drew ((Below.refl _ w3).drew)
  unfold manV at c5
  have HA4:=Lib.hid (HA3.out.below ((Below.refl _ w3).drew))
  have HM4:=Lib.hid (HM3.out.below ((Below.refl _ w3).drew))
  have HX4:=Lib.hid (HX3.out.but ((But.refl (fun _=>False) w3).drew) (fun h=>h))
  have HK4:=Lib.hid (HK3.out.below ((Below.refl _ w3).drew))
  by_cases e5:(run (sw (manFile nums' base' begun')) ((Eff.new (seg L)).call S).2).1=0
  ·have HE5:=Lib.hid e5
   unfold After at c5
   rw [errV_ok e5] at c5
   clear e5
   refine Late.Goes.one (i:=5) (by kernel_rfl) (by simp only [List.getElem?_toArray,List.getElem?_cons_succ,List.getElem?_cons_zero];rfl) (fun K hK=>?_)
   clear hH
   go_simp
   go_at_call 52
   refine c5.mono ?_
   rintro e w5 ⟨rfl,hN5⟩
   have HA5:=Lib.hid (HA4.out.disk hN5)
   have HM5:=Lib.hid (HM4.out.but hN5.2 HG3.out.2)
   have HX5:=Lib.hid (HX4.out.but hN5.2 HG3.out.1)
   have HK5:=Lib.hid (HK4.out.disk hN5.2)
   clear c5 hN5
   refine hK.out _ _ ?_ (fun hH=>?_)
   ·exact fun _=>⟨HA5.out.log.cell 0,HX5.out⟩
   clear hK K
   have hH:=hH rfl
   try simp only [Act.put,List.setIfInBounds_toArray,List.set_cons_zero,List.set_cons_succ]
   refine Late.tk 6 ?_ ?_ hH ?_;rotate_left 2
   rotate_left
   any_goals (intro wy hSw;(try dsimp only at hSw);have k0:=hSw.1;have m0:wy.cell? ⟨b,0,none⟩=some _:=hSw.2.cell 0;have m1:wy.cell? ⟨b,1,none⟩=some _:=hSw.2.cell 1;have m2:wy.cell? ⟨b,2,none⟩=some _:=hSw.2.cell 2;go_simp;try (with_reducible rfl))
   try simp only [Act.put,List.setIfInBounds_toArray,List.set_cons_zero,List.set_cons_succ]
   refine Late.Goes.done (by kernel_rfl) ?_ _
   go_wp2_with fail
   refine Late.region_goes (fun V=>V.cell? ⟨lb,5,none⟩=some (.slice az nz cz)∧Disk.Blk V b 67 #[.slice (some ⟨g',0,none⟩) nums'.length c',.int .i64 (base':Int),.bool begun']) (fun j=>j == 14) (by kernel_rfl) ?_ (fun hH=>?_)
   ·exact ⟨(HA5.out.below ((Below.refl _ w5).drew)).log.cell 5,HX5.out.but ((But.refl (fun _=>False) w5).drew) (fun h=>h)⟩
   refine Late.tk 0 ?_ ?_ hH ?_;rotate_left 2
   refine Late.tk 1 ?_ ?_ hH ?_;rotate_left 2
   refine Late.tk 2 ?_ ?_ hH ?_;rotate_left 2
   refine Late.tk 3 ?_ ?_ hH ?_;rotate_left 2
   refine Late.tk 4 ?_ ?_ hH ?_;rotate_left 2
   refine Late.tk 5 ?_ ?_ hH ?_;rotate_left 2
   refine Late.tk 6 ?_ ?_ hH ?_;rotate_left 2
   rotate_left
   any_goals (intro wy hSw;(try dsimp only at hSw);have k0:=hSw.1;have m0:wy.cell? ⟨b,0,none⟩=some _:=hSw.2.cell 0;have m1:wy.cell? ⟨b,1,none⟩=some _:=hSw.2.cell 1;have m2:wy.cell? ⟨b,2,none⟩=some _:=hSw.2.cell 2;go_simp;try (with_reducible rfl))
   try simp only [Act.put,List.setIfInBounds_toArray,List.set_cons_zero,List.set_cons_succ]
   refine Late.Goes.one (i:=7) (by kernel_rfl) (by simp only [List.getElem?_toArray,List.getElem?_cons_succ,List.getElem?_cons_zero];rfl) (fun K hK=>?_)
   clear hH
   go_simp
   have hb6:=((Below.refl w5.heap.size w5).drew).alloc (Nat.le_refl _) (.cells #[.int .i64 0] 3)
   have HA6:=Lib.hid (HA5.out.below hb6)
   have HM6:=Lib.hid (HM5.out.below hb6)
   have HX6:=Lib.hid (HX5.out.but (But.of_new hb6 (S:=fun _=>False)) (fun h=>h))
   have HK6:=Lib.hid (HK5.out.below hb6)
   clear hb6
   refine hK.out _ _ ?_ (fun hH=>?_)
   ·exact fun _=>⟨HA6.out.log.cell 5,HX6.out⟩
   clear hK K
   have hH:=hH rfl
   try simp only [Act.put,List.setIfInBounds_toArray,List.set_cons_zero,List.set_cons_succ]
   refine Late.Goes.one (i:=8) (by kernel_rfl) (by simp only [List.getElem?_toArray,List.getElem?_cons_succ,List.getElem?_cons_zero];rfl) (fun K hK=>?_)
   clear hH
   have hown:(w5.drew.alloc (.cells #[.int .i64 0] 3)).ownsRow 0 3 1 (.slice az nz cz) zs.length (intCells zs):=HA6.out.siz
   refine step_append_onto rfl (.tmp 33) (.tmp 34) _ rfl 0 3 i2 _ 1 8 Tryz.underlying60 hi2 hx0 hx1 hx2 rfl (by omega) (.slice az nz cz) zs.length (intCells zs) rfl hown (.slice (some ⟨w5.drew.heap.size,0,none⟩) 1 1) 1 [.int .i64 0] rfl (sees_one _ _ _ _) (by intro u hu;rw [List.mem_singleton.1 hu];rfl) (by unfold maxLen;omega) (by omega) (Nat.zero_le _) ?_
   intro v7 w7 ho7 hon7
   obtain ⟨g7,c7,rfl⟩:=own_slice ho7
   have hne1:∀ k,(Value.slice az nz cz).ownBlock=some k→k≠lb∧k≠b∧¬ grow (grow F w2 w3) w3.drew w5 k:=fun k hk=>⟨fun e=>HTY.out _ _ _ _ _ _ _ _ HA6.out.siz HA6.out.log (by decide) (e ▸ hk),fun e=>HTY.out _ _ _ _ _ _ _ _ HA6.out.siz HX6.out (by decide) (e ▸ hk),(HA6.out.fz k hk).1⟩
   have hlog7:=HA6.out.log.but hon7.but (fun e=>(hne1 _ e.symm).1 rfl)
   have hX7:=HX6.out.but hon7.but (fun e=>(hne1 _ e.symm).2.1 rfl)
   have hd7:=HA6.out.dsk.but_ hon7.but (fun k hk e=>(hne1 _ e.symm).2.2 hk)
   have hm7:=HM6.out.but hon7.but (fun e=>H0.out.2.2.2.1 e.symm)
   rw [show intCells zs++[Value.int .i64 0]=intCells (zs++[0]) from intCells_snoc zs 0] at ho7
   have HX7:=Lib.hid hX7
   have HL7:=Lib.hid hlog7
   have H7:=Lib.hid (And.intro ho7 (And.intro hd7 (And.intro hm7 (And.intro hon7 hne1))))
   clear ho7 hon7 hne1 hlog7 hX7 hd7 hm7 hown
   refine hK.out _ _ ?_ (fun hH=>?_)
   ·exact fun _=>⟨HL7.out.cell 5,HX7.out⟩
   clear hK K
   have hH:=hH rfl
   try simp only [Act.put,List.setIfInBounds_toArray,List.set_cons_zero,List.set_cons_succ]
   refine Late.tk 9 ?_ ?_ hH ?_;rotate_left 2
   refine Late.tk 10 ?_ ?_ hH ?_;rotate_left 2
   rotate_left
   any_goals (intro wy hSw;(try dsimp only at hSw);have k0:=hSw.1;have m0:wy.cell? ⟨b,0,none⟩=some _:=hSw.2.cell 0;have m1:wy.cell? ⟨b,1,none⟩=some _:=hSw.2.cell 1;have m2:wy.cell? ⟨b,2,none⟩=some _:=hSw.2.cell 2;go_simp;try (with_reducible rfl))
   try simp only [Act.put,List.setIfInBounds_toArray,List.set_cons_zero,List.set_cons_succ]
   refine Late.Goes.one (i:=11) (by kernel_rfl) (by simp only [List.getElem?_toArray,List.getElem?_cons_succ,List.getElem?_cons_zero];rfl) (fun K hK=>?_)
   clear hH
   have l2:w7.cell? ⟨lb,2,none⟩=some (.slice (some ⟨g,0,none⟩) nums.length c):=HL7.out.cell 2
   have l3:w7.cell? ⟨lb,3,none⟩=some (.int .i64 (base:Int)):=HL7.out.cell 3
   have l4:w7.cell? ⟨lb,4,none⟩=some (.bool begun):=HL7.out.cell 4
   have y2:w7.frozen? ⟨lb,2,none⟩=false:=HL7.out.frozen 2
   have y3:w7.frozen? ⟨lb,3,none⟩=false:=HL7.out.frozen 3
   have y4:w7.frozen? ⟨lb,4,none⟩=false:=HL7.out.frozen 4
   go_simp
   clear l2 l3 l4 y2 y3 y4
   have hl8:=((HL7.out.set_ 2 (.slice (some ⟨g',0,none⟩) nums'.length c')).set_ 3 (.int .i64 (base':Int))).set_ 4 (.bool begun')
   have hb8:=((Disk.but_set w7 lb 2 (.slice (some ⟨g',0,none⟩) nums'.length c')).setCell (p:=⟨lb,3,none⟩) rfl (.int .i64 (base':Int))).setCell (p:=⟨lb,4,none⟩) rfl (.bool begun')
   obtain ⟨w8,hw8⟩:∃ W,W=((w7.setCell ⟨lb,2,none⟩ (.slice (some ⟨g',0,none⟩) nums'.length c')).setCell ⟨lb,3,none⟩ (.int .i64 (base':Int))).setCell ⟨lb,4,none⟩ (.bool begun'):=⟨_,rfl⟩
   rw [← hw8] at hl8 hb8 ⊢
   have hl8:Disk.Blk w8 lb 72 (logC p limit g' nums'.length c' base' begun' (.slice az nz cz) false):=hl8
   have HL8:=Lib.hid hl8
   have HB8:=Lib.hid hb8
   have HX8:=Lib.hid (HX7.out.but hb8 (show ¬ b=lb from fun e=>by have h1:=HX7.out;have h2:=HL7.out;exact (Disk.Blk.ne_ h1 h2 (by decide)) e))
   clear hw8 hl8 hb8
   refine hK.out _ _ ?_ (fun hH=>?_)
   ·exact fun _=>⟨HL8.out.cell 5,HX8.out⟩
   clear hK K
   have hH:=hH rfl
   try simp only [Act.put,List.setIfInBounds_toArray,List.set_cons_zero,List.set_cons_succ]
   refine Late.tk 12 ?_ ?_ hH ?_;rotate_left 2
   refine Late.tk 13 ?_ ?_ hH ?_;rotate_left 2
   rotate_left
   any_goals (intro wy hSw;(try dsimp only at hSw);have k0:=hSw.1;have m0:wy.cell? ⟨b,0,none⟩=some _:=hSw.2.cell 0;have m1:wy.cell? ⟨b,1,none⟩=some _:=hSw.2.cell 1;have m2:wy.cell? ⟨b,2,none⟩=some _:=hSw.2.cell 2;go_simp;try (with_reducible rfl))
   try simp only [Act.put,List.setIfInBounds_toArray,List.set_cons_zero,List.set_cons_succ]
   refine Late.Goes.one (i:=14) (by kernel_rfl) (by simp only [List.getElem?_toArray,List.getElem?_cons_succ,List.getElem?_cons_zero];rfl) (fun K hK=>?_)
   clear hH
   have l5:w8.cell? ⟨lb,5,none⟩=some (.slice az nz cz):=HL8.out.cell 5
   have y5:w8.frozen? ⟨lb,5,none⟩=false:=HL8.out.frozen 5
   go_simp
   clear l5 y5
   refine hK.out _ _ ?_ (fun _=>?_)
   ·exact fun h=>by cases h
   clear hK K
   try simp only [Act.put,List.setIfInBounds_toArray,List.set_cons_zero,List.set_cons_succ]
   refine Late.Goes.done (by kernel_rfl) ?_ _
   go_wp2_with fail
   go_ret
   obtain ⟨ho7,hd7,hm7,hon7,hne1⟩:=H7.out
   have hb9:=HB8.out.setCell (p:=⟨lb,5,none⟩) rfl (.slice (some ⟨g7,0,none⟩) (zs.length+1) c7)
   have hl9:=HL8.out.set_ 5 (.slice (some ⟨g7,0,none⟩) (zs.length+1) c7)
   have hflb:=HA6.out.flb
   have hown7:∀ k,(Value.slice (some ⟨g7,0,none⟩) (zs.length+1) c7).ownBlock=some k→(Value.slice az nz cz).ownBlock=some k∨w5.heap.size+1≤k:=fun k hk=>by
    rcases onto_own hon7 hk with h1|h1
    ·exact .inl h1
    ·refine .inr ?_
     simp at h1
     omega
   have hgF:=HG3.out
   have hz:=HA5.out
   have hlt5:=HA5.out.dsk.lt
   have hk:=HK6.out
   have hs7:=hon7.grown.size
   have hs9:=hb9.size
   have hgF5:¬ grow (grow F w2 w3) w3.drew w5 g':=not_grow hgF.2 HM4.out.lt
   have hm9:=hm7.but hb9 (show ¬ g'=lb from H0.out.2.2.1)
   have hsz:w5.heap.size+1=(w5.drew.alloc (.cells #[.int .i64 0] 3)).heap.size:=by simp
   refine ⟨grow (grow F w2 w3) w3.drew w5,.slice (some ⟨g7,0,none⟩) (zs.length+1) c7,⟨fun j hj=>?_,?_,fun j hj=>?_⟩,.inl ⟨?_,rfl,⟨?_,hl9,hm9,?_,HA5.out.flb,hgF5,fun k hk2=>?_,H0.out.2.2.1⟩⟩⟩
   ·rcases hk.sub j hj with h1|h1
    ·exact .inl h1
    ·exact .inr ⟨h1.1,Nat.lt_of_lt_of_le h1.2 (Nat.le_trans hs7 hs9)⟩
   ·have b1:=hk.but.trans hon7.but (fun k _ e => .inr (.inr e.symm))
    exact b1.trans hb9 (fun k _ e => .inr (.inl e))
   ·rcases hown7 j hj with h1|h1
    ·exact .inl h1
    ·exact .inr (by have:=HK5.out.but.size;omega)
   ·rw [HR.out,show rotA L (manFile nums' base' begun') = .new (seg L) :: sw (manFile nums' base' begun') from rfl,HQ3.out];exact HE5.out
   ·rw [HR.out,show rotA L (manFile nums' base' begun') = .new (seg L) :: sw (manFile nums' base' begun') from rfl,HQ3.out]
    exact hd7.but_ hb9 (fun k hk2 e=>HA5.out.flb ((show k=lb from e) ▸ hk2))
   ·rw [List.length_append]
    exact ownsRow_but ho7 hb9 (fun k hk2 e=>HTY.out _ _ _ _ _ _ _ _ ho7 HL7.out (by decide) (show _=some lb from (show k=lb from e) ▸ hk2))
   ·rcases hown7 k hk2 with h1|h1
    ·exact ⟨(hz.fz k h1).1,fun e=>H0.out.2.2.2.1 (e ▸ h1)⟩
    ·exact ⟨fun hF=>by have:=hlt5 k hF;omega,fun e=>by have:=HM5.out.lt;omega⟩
  ·have hv:=errV_bad e5
   unfold After at c5
   rw [hv] at c5
   have HV:=Lib.hid (And.intro e5 hv)
   clear e5 hv
   refine Late.Goes.one (i:=5) (by kernel_rfl) (by simp only [List.getElem?_toArray,List.getElem?_cons_succ,List.getElem?_cons_zero];rfl) (fun K hK=>?_)
   clear hH
   go_simp
   go_at_call 52
   refine c5.mono ?_
   rintro e w5 ⟨rfl,hN5⟩
   have HA5:=Lib.hid (HA4.out.disk hN5)
   have HX5:=Lib.hid (HX4.out.but hN5.2 HG3.out.1)
   have HK5:=Lib.hid (HK4.out.disk hN5.2)
   clear c5 hN5
   refine hK.out _ _ ?_ (fun hH=>?_)
   ·exact fun _=>⟨HA5.out.log.cell 0,HX5.out⟩
   clear hK K
   have hH:=hH rfl
   try simp only [Act.put,List.setIfInBounds_toArray,List.set_cons_zero,List.set_cons_succ]
   refine Late.tk 6 ?_ ?_ hH ?_;rotate_left 2
   rotate_left
   any_goals (intro wy hSw;(try dsimp only at hSw);have k0:=hSw.1;have m0:wy.cell? ⟨b,0,none⟩=some _:=hSw.2.cell 0;have m1:wy.cell? ⟨b,1,none⟩=some _:=hSw.2.cell 1;have m2:wy.cell? ⟨b,2,none⟩=some _:=hSw.2.cell 2;go_simp;try (with_reducible rfl))
   try simp only [Act.put,List.setIfInBounds_toArray,List.set_cons_zero,List.set_cons_succ]
   refine Late.Goes.done (by kernel_rfl) ?_ _
   go_wp2_with fail
   go_ret
   have hR:R=run (sw (manFile nums' base' begun')) ((Eff.new (seg L)).call S).2:=by rw [HR.out,show rotA L (manFile nums' base' begun') = .new (seg L) :: sw (manFile nums' base' begun') from rfl,HQ3.out]
   rw [hR]
   exact ⟨_,_,HK5.out,.inr ⟨HV.out.1,by rw [HV.out.2];rfl,HA5.out⟩⟩
 ·have HQ3:=Lib.hid (run_cons_err (r:=sw (manFile nums' base' begun')) e3)
  have hv:=errV_bad e3
  unfold After at c3
  rw [hv] at c3
  have HV:=Lib.hid (And.intro e3 hv)
  clear e3 hv
  refine Late.Goes.one (i:=7) (by kernel_rfl) (by simp only [List.getElem?_toArray,List.getElem?_cons_succ,List.getElem?_cons_zero];rfl) (fun K hK=>?_)
  clear hH
  go_simp
  go_at_call 59
  refine c3.mono ?_
  rintro e w3 ⟨rfl,hN3⟩
  have HA3:=Lib.hid (HA2.out.disk hN3)
  have HX3:=Lib.hid (HX2.out.but hN3.2 hbF)
  have HK3:=Lib.hid (HK2.out.disk hN3.2)
  clear c3 hN3
  refine hK.out _ _ ?_ (fun hH=>?_)
  ·exact fun _=>⟨HA3.out.log.cell 0,HX3.out⟩
  clear hK K
  have hH:=hH rfl
  try simp only [Act.put,List.setIfInBounds_toArray,List.set_cons_zero,List.set_cons_succ]
  refine Late.tk 8 ?_ ?_ hH ?_;rotate_left 2
  rotate_left
  any_goals (intro wy hSw;(try dsimp only at hSw);have k0:=hSw.1;have m0:wy.cell? ⟨b,0,none⟩=some _:=hSw.2.cell 0;have m1:wy.cell? ⟨b,1,none⟩=some _:=hSw.2.cell 1;have m2:wy.cell? ⟨b,2,none⟩=some _:=hSw.2.cell 2;go_simp;try (with_reducible rfl))
  try simp only [Act.put,List.setIfInBounds_toArray,List.set_cons_zero,List.set_cons_succ]
  refine Late.Goes.done (by kernel_rfl) ?_ _
  go_wp2_with fail
  go_ret
  have hR:R=(Eff.new (seg L)).call S:=by rw [HR.out,show rotA L (manFile nums' base' begun') = .new (seg L) :: sw (manFile nums' base' begun') from rfl,HQ3.out]
  rw [hR]
  exact ⟨_,_,HK3.out,.inr ⟨HV.out.1,by rw [HV.out.2];rfl,HA3.out⟩⟩
end
end Go.Proofs.YtbhoknnjilidnaaGreatDoor.Seg

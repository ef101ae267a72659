/- Contract: a merge is adopted. Contract: Adopt, where a merge was begun, and where none was. -/
import Derived.Test.YtbhoknnjilidnaaGreatDoorG42
set_option linter.unusedSimpArgs false
set_option linter.unusedVariables false
set_option maxHeartbeats 4000000
set_option maxRecDepth 100000
section
namespace Go.Proofs.YtbhoknnjilidnaaGreatDoor.Seg
open Go.Proofs.YtbhoknnjilidnaaGreatDoor.Mem
open Go.Proofs.YtbhoknnjilidnaaGreatDoor.Disk (Nm File St Eff Has grow errV used lenOf run)
open Go.ChangeShapes Go.WideShapes Go.ChangeAt Go.RowKit
section
variable {w w1 w2 W W':World} {p lb g g1 g2 c g' c':Nat} {S S1 S2:St} {F F1 F2:Nat→Prop} {limit:Int} {nums nums':List Nat} {base base':Nat} {begun begun':Bool} {zs:List Nat} {vz vz1 vz2:Value}
def AdoAfter (w:World) (p lb g:Nat) (F:Nat→Prop) (limit:Int) (vz:Value) (r:Int × St) (nums1:List Nat) (zs1:List Nat) (e:Ending) (w':World):Prop :=
 ∃ F1 g1 c1 vz1,KeptG w w' lb g F F1 vz g1 vz1∧((r.1=0∧e = .returned .nilIface∧SysAt w' p lb r.2 limit nums1 0 false zs1 false F1 g1 c1 vz1)∨(r.1≠0∧e = .returned (errV r.1)∧∃ nums2 base2 begun2 zs2,SysAt w' p lb r.2 limit nums2 base2 begun2 zs2 false F1 g1 c1 vz1))
theorem adopt_log (h:SysAt w p lb S limit nums base begun zs false F g c vz) (hr:nums.Pairwise (· < ·)) (hnl:nums.length≤900) (h100:∀ i ∈ nums,i < 100) (hT:Disk.look nT S.files=none) (hz:zs.length=nums.length) (hb:∃ i ∈ nums,base≤i) :
  Calls Tryz.prog 34 #[.pointer (some ⟨lb,0,none⟩)] w (AdoAfter w p lb g F limit vz (run (adA nums base) S) (from_ base nums) (zs.drop (nums.countP fun i=>decide (i < base)))):=by
 have hi:∀ i ∈ nums,i < 4294967296:=fun i h1=>by have:=h100 i h1;omega
 have H100:=Lib.hid h100
 clear h100
 have hzp:0 < zs.length:=by obtain ⟨i,h1,_⟩:=hb;have:=List.length_pos_of_mem h1;omega
 obtain ⟨gz,cz,hvz,-,hz1,hz2,hz3,hz4,hzc⟩:=nms_of_own h.siz hzp (by omega)
 subst hvz
 have HZN:=Lib.hid (show Nms w gz 0 cz zs from ⟨hz2,hz3,hz4,hzc⟩)
 clear hz1 hz2 hz3 hz4 hzc hzp
 have hlt:=h.lt
 have HA:=Lib.hid h
 have H0:=Lib.hid (And.intro hr (And.intro hi (And.intro hT hlt)))
 have hs1:=h.below ((Below.refl _ w).drew)
 have HA1:=Lib.hid hs1
 have c1:=ahead_any hs1.nms (by omega) hr base base begun
 unfold manV at c1
 have HC1:=Lib.hid c1
 have hK:nums.countP (fun i=>decide (i < base)) < nums.length:=by
  obtain ⟨i,h1,h2⟩:=hb
  rcases Nat.lt_or_ge (nums.countP fun i=>decide (i < base)) nums.length with h3|h3
  ·exact h3
  ·have h4:=List.countP_eq_length.1 (Nat.le_antisymm List.countP_le_length h3) i h1
   simp at h4
   omega
 have hfit:=hs1.nms.fits
 have hcm:=hs1.nms.small
 have htb:=take_below hr base
 obtain ⟨M0,hKK⟩:∃ M0,M0=nums.countP fun i=>decide (i < base):=⟨_,rfl⟩
 have HK:=Lib.hid hKK
 rw [← hKK] at hK htb HC1 ⊢
 have HTB:=Lib.hid htb
 have hmx:maxLen=9223372036854775807:=rfl
 rw [hmx] at hcm
 obtain ⟨n,hn⟩:∃ n,n=nums.length:=⟨_,rfl⟩
 have HN:=Lib.hid hn
 rw [← hn] at hK hfit HC1 hnl hz
 have HZL:=Lib.hid hz
 clear h hr hi hT hs1 c1 hlt hKK htb hmx hn hb hz
 go_enter Tryz.func34,Tryz.ntmps34
 go_wp2_with fail
 have HK2:=Lib.hid (fun V (hV:Below w.heap.size w V)=>show V.cell? ⟨lb,2,none⟩=some (.slice (some ⟨g,0,none⟩) n c) by rw [HN.out];exact (HA.out.below hV).log.cell 2)
 have HK3:=Lib.hid (fun V (hV:Below w.heap.size w V)=>show V.cell? ⟨lb,3,none⟩=some (.int .i64 (base:Int)) from (HA.out.below hV).log.cell 3)
 have HK4:=Lib.hid (fun V (hV:Below w.heap.size w V)=>show V.cell? ⟨lb,4,none⟩=some (.bool begun) from (HA.out.below hV).log.cell 4)
 refine Late.region_goes (fun V=>Below w.heap.size w V) (fun _=>false) (by kernel_rfl) ?_ (fun hH=>?_)
 ·exact (Below.refl _ w).drew
 refine Late.tk 0 ?_ ?_ hH ?_;rotate_left 2
 refine Late.tk 1 ?_ ?_ hH ?_;rotate_left 2
 refine Late.tk 2 ?_ ?_ hH ?_;rotate_left 2
 refine Late.tk 3 ?_ ?_ hH ?_;rotate_left 2
 refine Late.tk 4 ?_ ?_ hH ?_;rotate_left 2
 refine Late.tk 5 ?_ ?_ hH ?_;rotate_left 2
 refine Late.tk 6 ?_ ?_ hH ?_;rotate_left 2
 refine Late.tk 7 ?_ ?_ hH ?_;rotate_left 2
 refine Late.tk 8 ?_ ?_ hH ?_;rotate_left 2
 rotate_left
 any_goals (intro wy hSw;(try dsimp only at hSw);have k2:=HK2.out wy hSw;have k3:=HK3.out wy hSw;have k4:=HK4.out wy hSw;go_simp;try (with_reducible rfl))
 try simp only [Act.put,List.setIfInBounds_toArray,List.set_cons_zero,List.set_cons_succ]
 refine Late.Goes.one (i:=9) (by kernel_rfl) (by simp only [List.getElem?_toArray,List.getElem?_cons_succ,List.getElem?_cons_zero];rfl) (fun K hK=>?_)
 clear hH
 go_simp
 go_at_call 51
 refine HC1.out.mono ?_
 rintro e w1 ⟨rfl,hb1⟩
 have HB1:=Lib.hid (show Below w.heap.size w w1 from ((Below.refl _ w).drew).trans hb1)
 clear hb1
 refine hK.out _ _ ?_ (fun hH=>?_)
 ·exact fun _=>HB1.out
 clear hK K
 have hH:=hH rfl
 try simp only [Act.put,List.setIfInBounds_toArray,List.set_cons_zero,List.set_cons_succ]
 refine Late.tk 10 ?_ ?_ hH ?_;rotate_left 2
 rotate_left
 any_goals (intro wy hSw;(try dsimp only at hSw);have k2:=HK2.out wy hSw;have k3:=HK3.out wy hSw;have k4:=HK4.out wy hSw;go_simp;try (with_reducible rfl))
 try simp only [Act.put,List.setIfInBounds_toArray,List.set_cons_zero,List.set_cons_succ]
 refine Late.Goes.done (by kernel_rfl) ?_ _
 have hA1:=HA.out.below HB1.out
 have HA1:=Lib.hid hA1
 have k2:=HK2.out w1 HB1.out
 have hKc:(M0:Int)≤(c:Int):=by omega
 have hKn:(M0:Int)≤(n:Int):=by omega
 have c3:=clone_any (n:=n - M0) (hA1.nms.drop M0 (by rw [← HN.out];omega)) (by rw [List.length_drop,HN.out]) (by rw [List.length_drop];have:=HN.out;omega)
 rw [Nat.zero_add] at c3
 have HC3:=Lib.hid c3
 clear hA1 c3
 go_wp2_with fail
 refine HC3.out.mono ?_
 rintro e w3 ⟨v,rfl,ho,hb3⟩
 rw [HTB.out.2] at ho
 have hml:(from_ base nums).length=n - M0:=by rw [← HTB.out.2,List.length_drop,HN.out]
 obtain ⟨m',hm'⟩:∃ m',m'=n - M0:=⟨_,rfl⟩
 rw [← hm'] at ho hml
 obtain ⟨g',c',rfl,-,hg1,hg2,hnc,hcm',hcells⟩:=nms_of_own ho (by omega) (by omega)
 have hb3w:=HB1.out.trans (hb3.mono HB1.out.size)
 have hnm3:Nms w3 g' 0 c' (from_ base nums):=⟨hg2,by omega,hcm',hcells⟩
 have hb4:=(Below.refl _ w3).alloc (Nat.le_refl _) (.cells #[.slice (some ⟨g',0,none⟩) m' c',.int .i64 0,.bool false] 67)
 have hx4:Disk.Blk (w3.alloc (.cells #[.slice (some ⟨g',0,none⟩) m' c',.int .i64 0,.bool false] 67)) w3.heap.size 67 #[.slice (some ⟨g',0,none⟩) m' c',.int .i64 0,.bool false]:=Disk.Blk.new _ _ _
 have H4:=Lib.hid (And.intro (hb3w.trans (hb4.mono hb3w.size)) (And.intro hx4 (And.intro (hnm3.below hb4) (And.intro (show w.heap.size≤g' from by have:=HB1.out.size;omega) (And.intro hg2 (And.intro hml hb3w.size))))))
 rw [← hm']
 have HM:=Lib.hid hm'
 clear ho hg1 hg2 hnc hcm' hcells hb3w hnm3 hb4 hx4 hb3 hml hm' HC3 k2
 go_wp2_with fail
 change Code.wp _ _ _ _ (w3.alloc (.cells #[.slice (some ⟨g',0,none⟩) m' c',.int .i64 0,.bool false] 67))
 obtain ⟨b5,hb5⟩:∃ b5,b5=w3.heap.size:=⟨_,rfl⟩
 rw [← hb5] at H4 ⊢
 clear hb5
 generalize w3.alloc (.cells #[.slice (some ⟨g',0,none⟩) m' c',.int .i64 0,.bool false] 67)=w4 at H4 ⊢
 have hb4d:=H4.out.1.trans (((Below.refl _ w4).drew).mono H4.out.1.size)
 have HA4:=Lib.hid (HA.out.below hb4d)
 have HX4:=Lib.hid (H4.out.2.1.but ((But.refl (fun _=>False) w4).drew) (fun h=>h))
 have HM4:=Lib.hid (H4.out.2.2.1.below ((Below.refl _ w4).drew))
 have HKP4:=Lib.hid (Kept.refl (lb:=lb) (vz := .slice (some ⟨gz,0,none⟩) zs.length cz) hb4d HA.out.dsk.lt)
 have hif:∀ i ∈ from_ base nums,i < 4294967296:=fun i hi=>H0.out.2.1 i (List.mem_filter.1 hi).1
 have c5:=switchTo_any HA4.out.dsk H0.out.2.2.1 HM4.out (by rw [H4.out.2.2.2.2.2.1];have:=HM.out;omega) hif 0 (by omega) false
 unfold manV at c5
 rw [H4.out.2.2.2.2.2.1] at c5
 clear hb4d hif
 refine Late.region_goes (fun V=>V.cell? ⟨lb,0,none⟩=some (.pointer (some ⟨p,0,none⟩))∧Disk.Blk V b5 67 #[.slice (some ⟨g',0,none⟩) m' c',.int .i64 0,.bool false]) (fun _=>false) (by kernel_rfl) ?_ (fun hH=>?_)
 ·exact ⟨HA4.out.log.cell 0,HX4.out⟩
 refine Late.tk 0 ?_ ?_ hH ?_;rotate_left 2
 refine Late.tk 1 ?_ ?_ hH ?_;rotate_left 2
 refine Late.tk 2 ?_ ?_ hH ?_;rotate_left 2
 refine Late.tk 3 ?_ ?_ hH ?_;rotate_left 2
 refine Late.tk 4 ?_ ?_ hH ?_;rotate_left 2
 rotate_left
 any_goals (intro wy hSw;(try dsimp only at hSw);have k0:=hSw.1;have m0:wy.cell? ⟨b5,0,none⟩=some _:=hSw.2.cell 0;have m1:wy.cell? ⟨b5,1,none⟩=some _:=hSw.2.cell 1;have m2:wy.cell? ⟨b5,2,none⟩=some _:=hSw.2.cell 2;go_simp;try (with_reducible rfl))
 try simp only [Act.put,List.setIfInBounds_toArray,List.set_cons_zero,List.set_cons_succ]
 by_cases e5:(run (sw (manFile (from_ base nums) 0 false)) S).1=0
 ·have HE5:=Lib.hid e5
  unfold After at c5
  rw [errV_ok e5] at c5
  clear e5
  have HC5:=Lib.hid c5
  clear c5
  refine Late.Goes.one (i:=5) (by kernel_rfl) (by simp only [List.getElem?_toArray,List.getElem?_cons_succ,List.getElem?_cons_zero];rfl) (fun K hK=>?_)
  clear hH
  go_simp
  go_at_call 52
  refine HC5.out.mono ?_
  rintro e w5 ⟨rfl,hN5⟩
  have HA5:=Lib.hid (HA4.out.disk hN5)
  have hgF:¬ F g':=fun hF=>by have:=HA.out.dsk.lt _ hF;have:=H4.out.2.2.2.1;omega
  have hbF:¬ F b5:=fun hF=>by have:=HA.out.dsk.lt _ hF;have:=H4.out.2.2.2.2.2.2;omega
  have HM5:=Lib.hid (HM4.out.but hN5.2 hgF)
  have HX5:=Lib.hid (HX4.out.but hN5.2 hbF)
  have HKP5:=Lib.hid (HKP4.out.disk hN5.2)
  have HGF:=Lib.hid (show ¬ grow F w4.drew w5 g' from not_grow hgF HM4.out.lt)
  clear hN5 hgF hbF HC5
  refine hK.out _ _ ?_ (fun hH=>?_)
  ·exact fun _=>⟨HA5.out.log.cell 0,HX5.out⟩
  clear hK K
  have hH:=hH rfl
  try simp only [Act.put,List.setIfInBounds_toArray,List.set_cons_zero,List.set_cons_succ]
  refine Late.tk 6 ?_ ?_ hH ?_;rotate_left 2
  rotate_left
  any_goals (intro wy hSw;(try dsimp only at hSw);have k0:=hSw.1;have m0:wy.cell? ⟨b5,0,none⟩=some _:=hSw.2.cell 0;have m1:wy.cell? ⟨b5,1,none⟩=some _:=hSw.2.cell 1;have m2:wy.cell? ⟨b5,2,none⟩=some _:=hSw.2.cell 2;go_simp;try (with_reducible rfl))
  try simp only [Act.put,List.setIfInBounds_toArray,List.set_cons_zero,List.set_cons_succ]
  refine Late.Goes.done (by kernel_rfl) ?_ _
  go_wp2_with fail
  have hb5:=(Below.refl w5.heap.size w5).drew
  have HA6:=Lib.hid (HA5.out.below hb5)
  have HX6:=Lib.hid (HX5.out.but (But.of_new hb5 (S:=fun _=>False)) (fun h=>h))
  have HM6:=Lib.hid (HM5.out.below hb5)
  have HKP6:=Lib.hid (HKP5.out.below hb5)
  have HZ6:=Lib.hid (show Nms w5.drew gz 0 cz zs from by
   obtain ⟨gz',cz',hvz,-,_,hz2,hz3,hz4,hzc⟩:=nms_of_own HA6.out.siz (by have:=HZL.out;omega) (by have:=HZL.out;omega)
   injection hvz with q1 q2 q3
   injection q1 with q1
   injection q1 with q1
   subst q1
   subst q3
   exact ⟨hz2,hz3,hz4,hzc⟩)
  have c9:=clone_any (n:=zs.length - M0) (HZ6.out.drop M0 (by have:=HZL.out;omega)) (by rw [List.length_drop]) (by rw [List.length_drop];have:=HZL.out;omega)
  rw [Nat.zero_add] at c9
  have HC9:=Lib.hid c9
  have hck:¬ cz=M0:=by have:=HZ6.out.fits;have:=HZL.out;omega
  have hcz:(M0:Int)≤(cz:Int):=by have:=HZ6.out.fits;have:=HZL.out;omega
  have hczm:(cz:Int)≤9223372036854775807:=by have:=HZ6.out.small;rw [show maxLen=9223372036854775807 from rfl] at this;omega
  have hKz:(M0:Int)≤(zs.length:Int):=by have:=HZL.out;omega
  have hzl:(zs.length:Int)≤900:=by have:=HZL.out;omega
  clear hb5 c9
  refine Late.region_goes (fun V=>V.cell? ⟨lb,5,none⟩=some (.slice (some ⟨gz,0,none⟩) zs.length cz)∧Disk.Blk V b5 67 #[.slice (some ⟨g',0,none⟩) m' c',.int .i64 0,.bool false]) (fun j=>j == 15) (by kernel_rfl) ?_ (fun hH=>?_)
  ·exact ⟨HA6.out.log.cell 5,HX6.out⟩
  refine Late.tk 0 ?_ ?_ hH ?_;rotate_left 2
  refine Late.tk 1 ?_ ?_ hH ?_;rotate_left 2
  refine Late.tk 2 ?_ ?_ hH ?_;rotate_left 2
  refine Late.tk 3 ?_ ?_ hH ?_;rotate_left 2
  refine Late.tk 4 ?_ ?_ hH ?_;rotate_left 2
  refine Late.tk 5 ?_ ?_ hH ?_;rotate_left 2
  refine Late.tk 6 ?_ ?_ hH ?_;rotate_left 2
  refine Late.tk 7 ?_ ?_ hH ?_;rotate_left 2
  refine Late.tk 8 ?_ ?_ hH ?_;rotate_left 2
  rotate_left
  any_goals (intro wy hSw;(try dsimp only at hSw);have k0:=hSw.1;have m0:wy.cell? ⟨b5,0,none⟩=some _:=hSw.2.cell 0;have m1:wy.cell? ⟨b5,1,none⟩=some _:=hSw.2.cell 1;have m2:wy.cell? ⟨b5,2,none⟩=some _:=hSw.2.cell 2;go_simp;try (with_reducible rfl))
  try simp only [Act.put,List.setIfInBounds_toArray,List.set_cons_zero,List.set_cons_succ]
  refine Late.Goes.one (i:=9) (by kernel_rfl) (by simp only [List.getElem?_toArray,List.getElem?_cons_succ,List.getElem?_cons_zero];rfl) (fun K hK=>?_)
  clear hH
  go_simp
  refine HC9.out.mono ?_
  rintro e w7 ⟨v7,rfl,ho7,hb7⟩
  have hb57:=((Below.refl w5.heap.size w5).drew).trans (hb7.mono (Nat.le_refl _))
  have HA7:=Lib.hid (HA5.out.below hb57)
  have HX7:=Lib.hid (HX5.out.but (But.of_new hb57 (S:=fun _=>False)) (fun h=>h))
  have HM7:=Lib.hid (HM5.out.below hb57)
  have HKP7:=Lib.hid (HKP5.out.below hb57)
  have hdl:(zs.drop M0).length=zs.length - M0:=List.length_drop
  obtain ⟨g7,c7,rfl,-,hg71,hg72,hg73,hg74,-⟩:=nms_of_own ho7 (by rw [hdl];have:=HZL.out;omega) (by rw [hdl];have:=HZL.out;omega)
  have H7:=Lib.hid (And.intro ho7 (And.intro hg71 hg72))
  clear ho7 hb7 hb57 hg71 hg72 hg73 hg74 hdl HC9
  refine hK.out _ _ ?_ (fun hH=>?_)
  ·exact fun _=>⟨HA7.out.log.cell 5,HX7.out⟩
  clear hK K
  have hH:=hH rfl
  try simp only [Act.put,List.setIfInBounds_toArray,List.set_cons_zero,List.set_cons_succ]
  refine Late.tk 10 ?_ ?_ hH ?_;rotate_left 2
  refine Late.tk 11 ?_ ?_ hH ?_;rotate_left 2
  rotate_left
  any_goals (intro wy hSw;(try dsimp only at hSw);have k0:=hSw.1;have m0:wy.cell? ⟨b5,0,none⟩=some _:=hSw.2.cell 0;have m1:wy.cell? ⟨b5,1,none⟩=some _:=hSw.2.cell 1;have m2:wy.cell? ⟨b5,2,none⟩=some _:=hSw.2.cell 2;go_simp;try (with_reducible rfl))
  try simp only [Act.put,List.setIfInBounds_toArray,List.set_cons_zero,List.set_cons_succ]
  refine Late.Goes.one (i:=12) (by kernel_rfl) (by simp only [List.getElem?_toArray,List.getElem?_cons_succ,List.getElem?_cons_zero];rfl) (fun K hK=>?_)
  clear hH
  have l2:w7.cell? ⟨lb,2,none⟩=some (.slice (some ⟨g,0,none⟩) nums.length c):=HA7.out.log.cell 2
  have l3:w7.cell? ⟨lb,3,none⟩=some (.int .i64 (base:Int)):=HA7.out.log.cell 3
  have l4:w7.cell? ⟨lb,4,none⟩=some (.bool begun):=HA7.out.log.cell 4
  have y2:w7.frozen? ⟨lb,2,none⟩=false:=HA7.out.log.frozen 2
  have y3:w7.frozen? ⟨lb,3,none⟩=false:=HA7.out.log.frozen 3
  have y4:w7.frozen? ⟨lb,4,none⟩=false:=HA7.out.log.frozen 4
  go_simp
  clear l2 l3 l4 y2 y3 y4
  have hl8:=((HA7.out.log.set_ 2 (.slice (some ⟨g',0,none⟩) m' c')).set_ 3 (.int .i64 0)).set_ 4 (.bool false)
  have hb8:=((Disk.but_set w7 lb 2 (.slice (some ⟨g',0,none⟩) m' c')).setCell (p:=⟨lb,3,none⟩) rfl (.int .i64 0)).setCell (p:=⟨lb,4,none⟩) rfl (.bool false)
  obtain ⟨w8,hw8⟩:∃ W,W=((w7.setCell ⟨lb,2,none⟩ (.slice (some ⟨g',0,none⟩) m' c')).setCell ⟨lb,3,none⟩ (.int .i64 0)).setCell ⟨lb,4,none⟩ (.bool false):=⟨_,rfl⟩
  rw [← hw8] at hl8 hb8 ⊢
  have hl8:Disk.Blk w8 lb 72 (logC p limit g' m' c' 0 false (.slice (some ⟨gz,0,none⟩) zs.length cz) false):=hl8
  have HL8:=Lib.hid hl8
  have HB8:=Lib.hid hb8
  have HX8:=Lib.hid (HX7.out.but hb8 (show ¬ b5=lb from fun e=>by have h1:=HX7.out;have h2:=HA7.out.log;exact (Disk.Blk.ne_ h1 h2 (by decide)) e))
  clear hw8 hl8 hb8
  refine hK.out _ _ ?_ (fun hH=>?_)
  ·exact fun _=>⟨HL8.out.cell 5,HX8.out⟩
  clear hK K
  have hH:=hH rfl
  try simp only [Act.put,List.setIfInBounds_toArray,List.set_cons_zero,List.set_cons_succ]
  refine Late.tk 13 ?_ ?_ hH ?_;rotate_left 2
  refine Late.tk 14 ?_ ?_ hH ?_;rotate_left 2
  rotate_left
  any_goals (intro wy hSw;(try dsimp only at hSw);have k0:=hSw.1;have m0:wy.cell? ⟨b5,0,none⟩=some _:=hSw.2.cell 0;have m1:wy.cell? ⟨b5,1,none⟩=some _:=hSw.2.cell 1;have m2:wy.cell? ⟨b5,2,none⟩=some _:=hSw.2.cell 2;go_simp;try (with_reducible rfl))
  try simp only [Act.put,List.setIfInBounds_toArray,List.set_cons_zero,List.set_cons_succ]
  refine Late.Goes.one (i:=15) (by kernel_rfl) (by simp only [List.getElem?_toArray,List.getElem?_cons_succ,List.getElem?_cons_zero];rfl) (fun K hK=>?_)
  clear hH
  have l5:w8.cell? ⟨lb,5,none⟩=some (.slice (some ⟨gz,0,none⟩) zs.length cz):=HL8.out.cell 5
  have y5:w8.frozen? ⟨lb,5,none⟩=false:=HL8.out.frozen 5
  go_simp
  clear l5 y5
  refine hK.out _ _ ?_ (fun _=>?_)
  ·exact fun h=>by cases h
  clear hK K
  try simp only [Act.put,List.setIfInBounds_toArray,List.set_cons_zero,List.set_cons_succ]
  refine Late.Goes.done (by kernel_rfl) ?_ _
  have hb9:But (fun k=>k=lb) w7 (w8.setCell ⟨lb,5,none⟩ (.slice (some ⟨g7,0,none⟩) (zs.length - M0) c7)):=HB8.out.setCell (p:=⟨lb,5,none⟩) rfl (.slice (some ⟨g7,0,none⟩) (zs.length - M0) c7)
  have hl9:=HL8.out.set_ 5 (.slice (some ⟨g7,0,none⟩) (zs.length - M0) c7)
  have hll:(from_ base nums).length=m':=H4.out.2.2.2.2.2.1
  have hdl:(zs.drop M0).length=zs.length - M0:=List.length_drop
  have hg'l:¬ g'=lb:=fun e=>by have:=HA.out.log.lt;have:=H4.out.2.2.2.1;omega
  have h59:w5.drew.heap.size=w5.heap.size:=rfl
  have hs79:=hb9.size
  have hg7:=H7.out.2
  have hM5:=HM5.out.lt
  have HS9:=Lib.hid (show SysAt (w8.setCell ⟨lb,5,none⟩ (.slice (some ⟨g7,0,none⟩) (zs.length - M0) c7)) p lb (run (sw (manFile (from_ base nums) 0 false)) S).2 limit (from_ base nums) 0 false (zs.drop M0) false (grow F w4.drew w5) g' c' (.slice (some ⟨g7,0,none⟩) (zs.length - M0) c7) from
   { dsk:=HA7.out.dsk.but_ hb9 (fun k hk e=>HA7.out.flb ((show k=lb from e) ▸ hk))
     log:=by rw [hll];exact hl9
     nms:=HM7.out.but hb9 hg'l
     siz:=by
      rw [hdl]
      have ho:=ownsRow_but H7.out.1 hb9 (fun k hk e=>by
       have h1:g7=k:=by injection hk
       have h2:k=lb:=e
       have:=HA5.out.log.lt
       omega)
      refine ⟨ho.1,?_⟩
      rcases ho.2 with h1|⟨x,cap,cur,hv,hg,r⟩
      ·exact .inl h1
      ·exact .inr ⟨x,cap,cur,hv,Nat.zero_le _,r⟩
     flb:=HA7.out.flb
     fg:=HGF.out
     fz:=fun k hk=>by
      have h1:g7=k:=by injection hk
      exact ⟨fun hF=>by have:=HA5.out.dsk.lt k hF;omega,by omega⟩
     gl:=hg'l })
  have HP9:=Lib.hid (show KeptG w (w8.setCell ⟨lb,5,none⟩ (.slice (some ⟨g7,0,none⟩) (zs.length - M0) c7)) lb g F (grow F w4.drew w5) (.slice (some ⟨gz,0,none⟩) zs.length cz) g' (.slice (some ⟨g7,0,none⟩) (zs.length - M0) c7) from
   { sub:=fun j hj=>by
      rcases HKP7.out.sub j hj with h1|h1
      ·exact .inl h1
      ·exact .inr ⟨h1.1,by omega⟩
     but:=HKP7.out.but.trans hb9 (fun j hj e => .inr (.inl e))
     own:=fun j hj=>by
      have h1:g7=j:=by injection hj
      exact .inr (by have:=HKP5.out.but.size;omega)
     gs := .inr H4.out.2.2.2.1 })
  have HG9:=Lib.hid (show Nms (w8.setCell ⟨lb,5,none⟩ (.slice (some ⟨g7,0,none⟩) (zs.length - M0) c7)) g 0 c nums∧¬ grow F w4.drew w5 g from ⟨HA7.out.nms.but hb9 HA.out.gl,HA5.out.fg⟩)
  clear hb9 hl9 hll hdl hg'l h59 hs79 hg7 hM5
  generalize w8.setCell ⟨lb,5,none⟩ (.slice (some ⟨g7,0,none⟩) (zs.length - M0) c7)=w9 at HS9 HP9 HG9 ⊢
  clear HL8 HB8 HX8 HA7 HX7 HM7 HKP7 HA6 HX6 HM6 HKP6 HZ6
  go_wp2_with fail
  obtain ⟨S2,hS2⟩:∃ S2,S2=(run (sw (manFile (from_ base nums) 0 false)) S).2:=⟨_,rfl⟩
  rw [← hS2] at HS9
  have HR:=Lib.hid (show run (adA nums base) S=run (goneA (below base nums)) S2 by rw [hS2];exact run_app_ok HE5.out)
  have hbl:(below base nums).length=M0:=by rw [← HTB.out.1,List.length_take,← HN.out];omega
  have HBL:=Lib.hid hbl
  clear hS2 hbl
  go_loopw [61] (fun x wr=>∃ (k:Nat) (F1:Nat→Prop),k≤M0∧x = .int .i64 (k:Int)∧(run (goneA ((below base nums).take k)) S2).1=0∧SysAt wr p lb (run (goneA ((below base nums).take k)) S2).2 limit (from_ base nums) 0 false (zs.drop M0) false F1 g' c' (.slice (some ⟨g7,0,none⟩) (zs.length - M0) c7)∧KeptG w wr lb g F F1 (.slice (some ⟨gz,0,none⟩) zs.length cz) g' (.slice (some ⟨g7,0,none⟩) (zs.length - M0) c7)∧Nms wr g 0 c nums∧¬ F1 g) (fun x _=>M0 - (intOf x).toNat)
  case atStart=>exact ⟨0,_,by omega,rfl,by rw [List.take_zero];rfl,by rw [List.take_zero];exact HS9.out,HP9.out,HG9.out.1,HG9.out.2⟩
  case round =>
   obtain ⟨k,F1,hk,rfl,hz0,hS,hP,hN,hF⟩:=hrel
   have HS:=Lib.hid hS
   have HP:=Lib.hid hP
   have HNM:=Lib.hid hN
   have HF:=Lib.hid hF
   have HZ0:=Lib.hid hz0
   by_cases hlt:k < M0
   ·have hkn:k < nums.length:=by rw [← HN.out];omega
    have hcell:=hN.cell k hkn
    rw [Nat.zero_add] at hcell
    obtain ⟨i,hi⟩:∃ i,i=nums[k]:=⟨_,rfl⟩
    rw [← hi] at hcell
    have hi100:=H100.out i (by rw [hi];exact List.getElem_mem _)
    have htk:(below base nums).take (k+1)=(below base nums).take k++[i]:=by
     rw [← HTB.out.1,List.take_succ_eq_append_getElem (by rw [List.length_take,← HN.out];omega),List.getElem_take,hi]
    have HQ:=Lib.hid (show run (goneA ((below base nums).take (k+1))) S2=(Eff.gone (seg i)).call (run (goneA ((below base nums).take k)) S2).2 from by
     rw [htk,show goneA ((below base nums).take k++[i])=goneA ((below base nums).take k)++[.gone (seg i)] from by simp [goneA]]
     exact run_snoc hz0)
    have HST:=Lib.hid (fun (h:(run (goneA ((below base nums).take (k+1))) S2).1≠0)=>show run (goneA (below base nums)) S2=run (goneA ((below base nums).take (k+1))) S2 from by
     have h1:=run_stop (xs:=goneA (below base nums)) (S:=S2) (k+1)
     rw [show (goneA (below base nums)).take (k+1)=goneA ((below base nums).take (k+1)) from by simp [goneA,List.map_take]] at h1
     exact h1 h)
    clear hS hP hN hF hz0 hi htk hkn
    have hki:(k:Int) < (M0:Int):=by omega
    go_wp2_with fail
    have HS1:=Lib.hid (HS.out.below ((Below.refl _ wr).drew))
    refine Late.region_goes (fun V=>V.cell? ⟨lb,0,none⟩=some (.pointer (some ⟨p,0,none⟩))) (fun _=>false) (by kernel_rfl) ?_ (fun hH=>?_)
    ·exact HS1.out.log.cell 0
    refine Late.tk 0 ?_ ?_ hH ?_;rotate_left 2
    refine Late.tk 1 ?_ ?_ hH ?_;rotate_left 2
    refine Late.tk 2 ?_ ?_ hH ?_;rotate_left 2
    refine Late.tk 3 ?_ ?_ hH ?_;rotate_left 2
    refine Late.tk 4 ?_ ?_ hH ?_;rotate_left 2
    rotate_left
    any_goals (intro wy hSw;(try dsimp only at hSw);skip;go_simp;try (with_reducible rfl))
    try simp only [Act.put,List.setIfInBounds_toArray,List.set_cons_zero,List.set_cons_succ]
    refine Late.Goes.one (i:=5) (by kernel_rfl) (by simp only [List.getElem?_toArray,List.getElem?_cons_succ,List.getElem?_cons_zero];rfl) (fun K hK=>?_)
    clear hH
    go_simp
    go_at_call 44
    refine (segmentFile_any (w:=wr.drew) i (by omega) (.inl hi100)).mono ?_
    rintro e wa ⟨rfl,hba⟩
    have hba:=((Below.refl _ wr).drew).trans hba
    have HSa:=Lib.hid (HS.out.below hba)
    have HNa:=Lib.hid (HNM.out.below hba)
    have HPa:=Lib.hid (HP.out.trans (KeptG.below HS.out.dsk.lt hba))
    clear hba HS1
    refine hK.out _ _ ?_ (fun hH=>?_)
    ·exact fun _=>HSa.out.log.cell 0
    clear hK K
    have hH:=hH rfl
    try simp only [Act.put,List.setIfInBounds_toArray,List.set_cons_zero,List.set_cons_succ]
    have c3:=dsk_gone HSa.out.dsk (segB i) (segB_size i (by omega))
    rw [segB_nm] at c3
    by_cases e3:((Eff.gone (seg i)).call (run (goneA ((below base nums).take k)) S2).2).1=0
    ·unfold After at c3
     rw [errV_ok e3] at c3
     have HC3:=Lib.hid c3
     have HE3:=Lib.hid e3
     clear c3 e3
     refine Late.Goes.one (i:=6) (by kernel_rfl) (by simp only [List.getElem?_toArray,List.getElem?_cons_succ,List.getElem?_cons_zero];rfl) (fun K hK=>?_)
     clear hH
     go_simp
     go_at_call 60
     refine HC3.out.mono ?_
     rintro e wb ⟨rfl,hNb⟩
     have HSb:=Lib.hid (HSa.out.disk hNb)
     have HPb:=Lib.hid (HPa.out.trans (KeptG.disk hNb))
     have HNb:=Lib.hid (show Nms wb g 0 c nums∧¬ grow F1 wa wb g from ⟨HNa.out.but hNb.2 HF.out,not_grow HF.out HNa.out.lt⟩)
     clear hNb HC3
     refine hK.out _ _ ?_ (fun hH=>?_)
     ·exact fun _=>HSb.out.log.cell 0
     clear hK K
     have hH:=hH rfl
     try simp only [Act.put,List.setIfInBounds_toArray,List.set_cons_zero,List.set_cons_succ]
     refine Late.tk 7 ?_ ?_ hH ?_;rotate_left 2
     rotate_left
     any_goals (intro wy hSw;(try dsimp only at hSw);skip;go_simp;try (with_reducible rfl))
     try simp only [Act.put,List.setIfInBounds_toArray,List.set_cons_zero,List.set_cons_succ]
     refine Late.Goes.done (by kernel_rfl) ?_ _
     go_wp2_with fail
     go_roundw
     case rel=>exact ⟨k+1,_,by omega,by go_num,by rw [HQ.out];exact HE3.out,by rw [HQ.out];exact HSb.out,HPb.out,HNb.out.1,HNb.out.2⟩
     case measure=>simp [intOf];omega
    ·have hv:=errV_bad e3
     have HV:=Lib.hid (And.intro e3 hv)
     unfold After at c3
     rw [hv] at c3
     have HC3:=Lib.hid c3
     clear c3 e3 hv
     refine Late.Goes.one (i:=6) (by kernel_rfl) (by simp only [List.getElem?_toArray,List.getElem?_cons_succ,List.getElem?_cons_zero];rfl) (fun K hK=>?_)
     clear hH
     go_simp
     go_at_call 60
     refine HC3.out.mono ?_
     rintro e wb ⟨rfl,hNb⟩
     have HSb:=Lib.hid (HSa.out.disk hNb)
     have HPb:=Lib.hid (HPa.out.trans (KeptG.disk hNb))
     clear hNb HC3
     refine hK.out _ _ ?_ (fun hH=>?_)
     ·exact fun _=>HSb.out.log.cell 0
     clear hK K
     have hH:=hH rfl
     try simp only [Act.put,List.setIfInBounds_toArray,List.set_cons_zero,List.set_cons_succ]
     refine Late.tk 7 ?_ ?_ hH ?_;rotate_left 2
     rotate_left
     any_goals (intro wy hSw;(try dsimp only at hSw);skip;go_simp;try (with_reducible rfl))
     try simp only [Act.put,List.setIfInBounds_toArray,List.set_cons_zero,List.set_cons_succ]
     refine Late.Goes.done (by kernel_rfl) ?_ _
     have HRR:=Lib.hid (show run (adA nums base) S=(Eff.gone (seg i)).call (run (goneA ((below base nums).take k)) S2).2 from by rw [HR.out,HST.out (by rw [HQ.out];exact HV.out.1),HQ.out])
     go_wp2_with fail
     go_ret
     exact ⟨_,g',c',_,HPb.out,.inr ⟨by rw [HRR.out];exact HV.out.1,by rw [HRR.out,HV.out.2];rfl,_,_,_,_,by rw [HRR.out];exact HSb.out⟩⟩
   ·have hkn:k=M0:=by omega
    have HRR:=Lib.hid (show run (adA nums base) S=run (goneA ((below base nums).take k)) S2 from by rw [HR.out,List.take_of_length_le (by rw [HBL.out];omega)])
    clear hS hP hN hF hz0
    go_wp2_with fail
    go_ret
    exact ⟨_,g',c',_,HP.out,.inl ⟨by rw [HRR.out];exact HZ0.out,rfl,by rw [HRR.out];exact HS.out⟩⟩
 ·have hv:=errV_bad e5
  have HV:=Lib.hid (And.intro e5 hv)
  unfold After at c5
  rw [hv] at c5
  have HC5:=Lib.hid c5
  clear c5 e5 hv
  refine Late.Goes.one (i:=5) (by kernel_rfl) (by simp only [List.getElem?_toArray,List.getElem?_cons_succ,List.getElem?_cons_zero];rfl) (fun K hK=>?_)
  clear hH
  go_simp
  go_at_call 52
  refine HC5.out.mono ?_
  rintro e w5 ⟨rfl,hN5⟩
  have HA5:=Lib.hid (HA4.out.disk hN5)
  have hbF:¬ F b5:=fun hF=>by have:=HA.out.dsk.lt _ hF;have:=H4.out.2.2.2.2.2.2;omega
  have HX5:=Lib.hid (HX4.out.but hN5.2 hbF)
  have HKP5:=Lib.hid (HKP4.out.disk hN5.2)
  have HQ:=Lib.hid (show run (adA nums base) S=run (sw (manFile (from_ base nums) 0 false)) S from run_app_err HV.out.1)
  clear hN5 hbF HC5
  refine hK.out _ _ ?_ (fun hH=>?_)
  ·exact fun _=>⟨HA5.out.log.cell 0,HX5.out⟩
  clear hK K
  have hH:=hH rfl
  try simp only [Act.put,List.setIfInBounds_toArray,List.set_cons_zero,List.set_cons_succ]
  refine Late.tk 6 ?_ ?_ hH ?_;rotate_left 2
  rotate_left
  any_goals (intro wy hSw;(try dsimp only at hSw);skip;go_simp;try (with_reducible rfl))
  try simp only [Act.put,List.setIfInBounds_toArray,List.set_cons_zero,List.set_cons_succ]
  refine Late.Goes.done (by kernel_rfl) ?_ _
  go_wp2_with fail
  go_ret
  exact ⟨_,g,c,_,KeptG.of HKP5.out,.inr ⟨by rw [HQ.out];exact HV.out.1,by rw [HQ.out,HV.out.2];rfl,nums,base,begun,zs,by rw [HQ.out];exact HA5.out⟩⟩
end
end Go.Proofs.YtbhoknnjilidnaaGreatDoor.Seg
end
section
namespace Go.Proofs.YtbhoknnjilidnaaGreatDoor.Seg
open Go.Proofs.YtbhoknnjilidnaaGreatDoor.Mem
open Go.Proofs.YtbhoknnjilidnaaGreatDoor.Disk (Nm File St Eff Has grow errV used lenOf run)
open Go.ChangeShapes Go.WideShapes Go.ChangeAt Go.RowKit
section
variable {w w1 w2 W W':World} {p lb g g1 g2 c g' c':Nat} {S S1 S2:St} {F F1 F2:Nat→Prop} {limit:Int} {nums nums':List Nat} {base base':Nat} {begun begun':Bool} {zs:List Nat} {vz vz1 vz2:Value}
theorem attempt_adopt {r:Int × St} {nums1 zs1:List Nat} (h:SysAt w p lb S limit nums base begun zs false F g c vz)
  (hp:Calls Tryz.prog 34 #[.pointer (some ⟨lb,0,none⟩)] w (AdoAfter w p lb g F limit vz r nums1 zs1)) :
  Calls Tryz.prog 31 #[.pointer (some ⟨lb,0,none⟩),.func (.func 34) #[.pointer (some ⟨lb,0,none⟩)] #[]] w (AttAfter w p lb g F limit vz r nums1 0 false zs1):=by
 have k6:w.cell? ⟨lb,6,none⟩=some (.bool false):=h.log.cell 6
 have HC:=Lib.hid hp
 clear h hp
 go_enter Tryz.func31,Tryz.ntmps31
 go_wp2_with fail
 refine HC.out.mono ?_
 rintro e w1 ⟨F1,g1,c1,vz1,hK,⟨hr0,rfl,hS⟩|⟨hr0,rfl,nums2,base2,begun2,zs2,hS⟩⟩
 ·have HK:=Lib.hid (And.intro hK (And.intro hr0 hS))
  clear hK hr0 hS HC
  go_wp2_with fail
  go_ret
  exact ⟨F1,g1,c1,vz1,HK.out.1,.inl ⟨HK.out.2.1,rfl,HK.out.2.2⟩⟩
 ·have hv:=errV_bad hr0
  rw [hv]
  have HV:=Lib.hid (And.intro hr0 hv)
  have HK:=Lib.hid (And.intro hK hS)
  have l6:w1.cell? ⟨lb,6,none⟩=some (.bool false):=hS.log.cell 6
  have y6:w1.frozen? ⟨lb,6,none⟩=false:=hS.log.frozen 6
  clear hK hr0 hS HC hv
  go_wp2_with fail
  go_ret
  obtain ⟨q1,q2⟩:=HK.out.2.fail
  exact ⟨F1,g1,c1,vz1,HK.out.1.trans q2,.inr ⟨HV.out.1,by rw [HV.out.2];rfl,nums2,base2,begun2,zs2,q1⟩⟩
theorem adopts_yes (h:SysAt w p lb S limit nums base begun zs false F g c vz) (hr:nums.Pairwise (· < ·)) (hnl:nums.length≤900) (h100:∀ i ∈ nums,i < 100) (hT:Disk.look nT S.files=none) (hz:zs.length=nums.length) (hb:∃ i ∈ nums,base≤i) (h0:base≠0) (hbm:base < 100) :
  Calls Tryz.prog 13 #[.pointer (some ⟨lb,0,none⟩)] w (AttAfter w p lb g F limit vz (run (adA nums base) S) (from_ base nums) 0 false (zs.drop (nums.countP fun i=>decide (i < base)))):=by
 have k3:w.cell? ⟨lb,3,none⟩=some (.int .i64 (base:Int)):=h.log.cell 3
 have HC:=Lib.hid (attempt_adopt h (adopt_log h hr hnl h100 hT hz hb))
 have hb0:((base:Int) == 0)=false:=beq_eq_false_iff_ne.2 (by omega)
 clear h hr hnl h100 hT hz hb
 go_enter Tryz.func13,Tryz.ntmps13
 go_wp2_with fail
 refine HC.out.mono ?_
 rintro e w1 ⟨F1,g1,c1,vz1,hK,⟨hr0,rfl,hS⟩|⟨hr0,rfl,nums2,base2,begun2,zs2,hS⟩⟩
 ·have HK:=Lib.hid (And.intro hK (And.intro hr0 hS))
  clear hK hr0 hS HC
  go_wp2_with fail
  go_ret
  exact ⟨F1,g1,c1,vz1,HK.out.1,.inl ⟨HK.out.2.1,rfl,HK.out.2.2⟩⟩
 ·have hv:=errV_bad hr0
  rw [hv]
  have HV:=Lib.hid (And.intro hr0 hv)
  have HK:=Lib.hid (And.intro hK hS)
  clear hK hr0 hS HC hv
  go_wp2_with fail
  go_ret
  exact ⟨F1,g1,c1,vz1,HK.out.1,.inr ⟨HV.out.1,by rw [HV.out.2];rfl,nums2,base2,begun2,zs2,HK.out.2⟩⟩
theorem adopts_no {failed:Bool} (h:SysAt w p lb S limit nums 0 begun zs failed F g c vz) :
  Calls Tryz.prog 13 #[.pointer (some ⟨lb,0,none⟩)] w fun e w'=>e = .returned (errV 1)∧w=w':=by
 have k3:w.cell? ⟨lb,3,none⟩=some (.int .i64 0):=h.log.cell 3
 clear h
 go_enter Tryz.func13,Tryz.ntmps13
 go_wp2_with fail
 go_ret
 exact ⟨rfl,rfl⟩
end
end Go.Proofs.YtbhoknnjilidnaaGreatDoor.Seg
end

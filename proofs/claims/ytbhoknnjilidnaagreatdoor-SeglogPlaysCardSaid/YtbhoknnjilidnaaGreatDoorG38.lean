/- Contracts: a frame is read from a log; its segments, its bytes, whether a merge was begun. Contracts: the law's own functions: pick, drop, opened; what its state is. Contracts: the law's done: a state behind a deed. -/
import Derived.Test.YtbhoknnjilidnaaGreatDoorG37
import Derived.Test.YtbhoknnjilidnaaGreatDoorG19
set_option linter.unusedSimpArgs false
set_option linter.unusedVariables false
set_option maxHeartbeats 8000000
set_option maxRecDepth 100000
section
namespace Go.Proofs.YtbhoknnjilidnaaGreatDoor.Seg
open Go.Proofs.YtbhoknnjilidnaaGreatDoor.Mem
open Go.Proofs.YtbhoknnjilidnaaGreatDoor.Disk (Nm File St Eff Has grow errV used lenOf run)
open Go.Proofs.YtbhoknnjilidnaaGreatDoor.Rec (Rcd Recs Is okBody)
open Go.Proofs.YtbhoknnjilidnaaGreatDoor.Torn (Gp gcells Pcs scan total scan_new)
open Go.ChangeShapes Go.WideShapes Go.ChangeAt Go.RowKit
section
variable {w w1 w2 W W':World} {p lb g g1 g2 c:Nat} {S S1 S2:St} {F F1 F2:Nat→Prop} {limit:Int} {nums:List Nat} {base:Nat} {begun:Bool} {zs:List Nat} {vz vz1 vz2:Value} {failed:Bool}
theorem segments_log (h:SysAt w p lb S limit nums base begun zs failed F g c vz) (hl:nums.length≤1000000) :
  Calls Tryz.prog 24 #[.pointer (some ⟨lb,0,none⟩)] w fun e w'=>∃ v,e = .returned v∧w'.ownsRow w.heap.size 3 1 v nums.length (intCells nums)∧Below w.heap.size w w':=by
 have k2:w.cell? ⟨lb,2,none⟩=some (.slice (some ⟨g,0,none⟩) nums.length c):=h.log.cell 2
 have c1:=clone_any h.nms rfl hl
 clear h
 go_enter Tryz.func24,Tryz.ntmps24
 go_wp2_with fail
 refine c1.mono ?_
 rintro e w1 ⟨v,rfl,h1,h2⟩
 have H:=Lib.hid (And.intro h1 h2)
 clear h1 h2 c1
 go_wp2_with fail
 go_ret
 exact ⟨_,rfl,H.out.1,H.out.2⟩
theorem begun_log (h:SysAt w p lb S limit nums base begun zs failed F g c vz) :
  Calls Tryz.prog 41 #[.pointer (some ⟨lb,0,none⟩)] w fun e w'=>e = .returned (.bool begun)∧w=w':=by
 have k4:w.cell? ⟨lb,4,none⟩=some (.bool begun):=h.log.cell 4
 clear h
 go_enter Tryz.func41,Tryz.ntmps41
 go_wp2_with fail
 go_ret
 exact ⟨rfl,rfl⟩
theorem sum_take (zs:List Nat) (k:Nat) (h:k < zs.length):(zs.take (k+1)).sum=(zs.take k).sum+zs[k]:=by
 rw [List.take_succ_eq_append_getElem h,List.sum_append];simp
theorem sum_le (zs:List Nat) (k m:Nat) (h:∀ z ∈ zs,z≤m):(zs.take k).sum≤k * m:=by
 induction zs generalizing k with
 | nil=>simp
 | cons z r ih =>
  rcases k with _|k
  ·simp
  ·have h1:=ih k (fun z hz=>h z (List.mem_cons_of_mem _ hz))
   have h2:=h z List.mem_cons_self
   rw [List.take_succ_cons,List.sum_cons,Nat.succ_mul];omega
theorem bytes_log (h:SysAt w p lb S limit nums base begun zs failed F g c vz) (hz0:0 < zs.length) (hz1:zs.length≤1000) (hzs:∀ z ∈ zs,z≤2000000000) :
  Calls Tryz.prog 23 #[.pointer (some ⟨lb,0,none⟩)] w fun e w'=>e = .returned (.int .i64 ((zs.sum:Nat):Int))∧w=w':=by
 obtain ⟨gz,cz,rfl⟩:=own_slice0 h.siz hz0
 have k5:w.cell? ⟨lb,5,none⟩=some (.slice (some ⟨gz,0,none⟩) zs.length cz):=h.log.cell 5
 have hc:=fun i (hi:i < zs.length)=>(h.siz.cellAt i (by omega)).trans (intCells_get hi)
 have HC:=Lib.hid hc
 have HZ:=Lib.hid hzs
 clear h hc hzs
 go_enter Tryz.func23,Tryz.ntmps23
 go_wp2_with fail
 go_loopw [3,11] (fun s i wr=>∃ k:Nat,k≤zs.length∧i = .int .i64 (k:Int)∧s = .int .i64 (((zs.take k).sum:Nat):Int)∧wr=w) (fun _ i _=>zs.length - (intOf i).toNat)
 case atStart=>exact ⟨0,Nat.zero_le _,rfl,rfl,rfl⟩
 case round =>
  obtain ⟨k,hk,rfl,rfl,rfl⟩:=hrel
  by_cases hlt:k < zs.length
  ·have hcell:=HC.out k hlt
   have hs:=sum_take zs k hlt
   have hm:=sum_le zs (k+1) 2000000000 HZ.out
   obtain ⟨A,hA⟩:∃ A,A=(zs.take k).sum:=⟨_,rfl⟩
   obtain ⟨z,hz⟩:∃ z,z=zs[k]:=⟨_,rfl⟩
   rw [← hA,← hz] at hs
   rw [← hz] at hcell
   rw [← hA]
   have ew:IntKind.i64.wrap ((A:Int)+(z:Int))=(A:Int)+(z:Int):=by rw [IntKind.wrap_i64];omega
   have HS:=Lib.hid hs
   clear hs hm hA hz
   go_wp2_with fail
   go_roundw
   case rel=>exact ⟨k+1,by omega,by go_num,by rw [HS.out];rfl,trivial⟩
   case measure=>simp [intOf];omega
  ·have hkl:k=zs.length:=by omega
   have hall:zs.take k=zs:=List.take_of_length_le (by omega)
   rw [hall]
   subst hkl
   clear hall hlt hk
   obtain ⟨A,hA⟩:∃ A,A=zs.sum:=⟨_,rfl⟩
   rw [← hA]
   have HA:=Lib.hid hA
   clear hA
   go_wp2_with fail
   go_ret
   exact ⟨by rw [HA.out];rfl,rfl⟩
theorem read_log (h:SysAt w p lb S limit nums base begun zs false F g c vz) (hd:S.down=false) {i at_ len:Nat} (hi:i ∈ nums) (hi1:i < 100) (hnl:nums.length≤1000) {f:File} (hf:Disk.look (seg i) S.files=some f) (hln:at_+len≤f.bytes.length) {l:List Rcd} (hsc:scan 0 ((f.bytes.drop at_).take len)=[⟨0,len,l⟩]) :
  Calls Tryz.prog 22 #[.pointer (some ⟨lb,0,none⟩),spV i at_ len] w fun e w'=>∃ a cap,e = .returned (.tuple #[.slice a l.length cap,.nilIface])∧Recs w' a l∧Below w.heap.size w w':=by
 have hbs:f.bytes.length≤1000000:=Nat.le_trans (Disk.total_le_of (f:=fun e:File=>e.bytes.length) (Disk.look_mem hf)) h.dsk.2.used
 have hbx:=(Below.refl _ w).alloc (Nat.le_refl _) (.cells #[.int .i64 (i:Int),.int .i64 (at_:Int),.int .i64 (len:Int)] 47)
 have hx:Disk.Blk (w.alloc (.cells #[.int .i64 (i:Int),.int .i64 (at_:Int),.int .i64 (len:Int)] 47)) w.heap.size 47 #[.int .i64 (i:Int),.int .i64 (at_:Int),.int .i64 (len:Int)]:=Disk.Blk.new _ _ _
 have hs:=h.below hbx
 obtain ⟨W,hW⟩:∃ W,W=w.alloc (.cells #[.int .i64 (i:Int),.int .i64 (at_:Int),.int .i64 (len:Int)] 47):=⟨_,rfl⟩
 obtain ⟨b,hb⟩:∃ b,b=w.heap.size:=⟨_,rfl⟩
 rw [← hW,← hb] at hx
 rw [← hW] at hbx hs
 have HS:=Lib.hid (And.intro hs hx)
 have HB:=Lib.hid hbx
 have H0:=Lib.hid (And.intro hf (And.intro hd (And.intro hsc hi)))
 have hmem:((ints nums).take nums.length).contains (i:Int)=true:=by
  rw [List.take_of_length_le (by rw [ints_length];exact Nat.le_refl _),List.contains_iff_mem]
  exact List.mem_map.2 ⟨i,hi,rfl⟩
 have HM:=Lib.hid hmem
 clear h hd hi hf hsc hbx hx hs hmem
 unfold spV
 go_enter Tryz.func22,Tryz.ntmps22
 go_wp2_with fail
 rw [← hW,← hb]
 clear hW hb
 refine Late.region_goes (fun V=>Disk.Blk V lb 72 (logC p limit g nums.length c base begun vz false)∧Disk.Blk V b 47 #[.int .i64 (i:Int),.int .i64 (at_:Int),.int .i64 (len:Int)]) (fun _=>false) (by kernel_rfl) ?_ (fun hH=>?_)
 ·exact ⟨(HS.out.1.below ((Below.refl _ W).drew)).log,HS.out.2.but ((But.refl (fun _=>False) W).drew) (fun h=>h)⟩
 refine Late.tk 0 ?_ ?_ hH ?_;rotate_left 2
 refine Late.tk 1 ?_ ?_ hH ?_;rotate_left 2
 refine Late.tk 2 ?_ ?_ hH ?_;rotate_left 2
 refine Late.tk 3 ?_ ?_ hH ?_;rotate_left 2
 refine Late.tk 4 ?_ ?_ hH ?_;rotate_left 2
 refine Late.tk 5 ?_ ?_ hH ?_;rotate_left 2
 refine Late.tk 6 ?_ ?_ hH ?_;rotate_left 2
 rotate_left
 any_goals (intro wy hSw;(try dsimp only at hSw);obtain ⟨ql,qb⟩:=hSw;have k0:wy.cell? ⟨lb,0,none⟩=some (.pointer (some ⟨p,0,none⟩)):=ql.cell 0;have k2:wy.cell? ⟨lb,2,none⟩=some (.slice (some ⟨g,0,none⟩) nums.length c):=ql.cell 2;have m0:wy.cell? ⟨b,0,none⟩=some _:=qb.cell 0;have m1:wy.cell? ⟨b,1,none⟩=some _:=qb.cell 1;have m2:wy.cell? ⟨b,2,none⟩=some _:=qb.cell 2;go_simp;try (with_reducible rfl))
 try simp only [Act.put,List.setIfInBounds_toArray,List.set_cons_zero,List.set_cons_succ]
 refine Late.Goes.one (i:=7) (by kernel_rfl) (by simp only [List.getElem?_toArray,List.getElem?_cons_succ,List.getElem?_cons_zero];rfl) (fun K hK=>?_)
 clear hH
 go_simp
 go_at_call 42
 have hz:nums.length≤(ints nums).length:=Nat.le_of_eq (ints_length nums).symm
 have hbig:nums.length≤9223372036854775807:=by omega
 have hcl:=(HS.out.1.below ((Below.refl _ W).drew)).nms.cells
 have c7:=Tryz.slices_Contains_int g 0 nums.length c (ints nums) (i:Int) _ hz hbig hcl
 rw [HM.out] at c7
 refine c7.mono ?_
 rintro e w' ⟨rfl,rfl⟩
 clear hz hbig hcl c7
 have HS1:=Lib.hid (show SysAt W.drew p lb S limit nums base begun zs false F g c vz∧Disk.Blk W.drew b 47 #[.int .i64 (i:Int),.int .i64 (at_:Int),.int .i64 (len:Int)] from ⟨HS.out.1.below ((Below.refl _ W).drew),HS.out.2.but ((But.refl (fun _=>False) W).drew) (fun h=>h)⟩)
 refine hK.out _ _ ?_ (fun hH=>?_)
 ·exact fun _=>⟨HS1.out.1.log,HS1.out.2⟩
 clear hK K
 have hH:=hH rfl
 try simp only [Act.put,List.setIfInBounds_toArray,List.set_cons_zero,List.set_cons_succ]
 refine Late.tk 8 ?_ ?_ hH ?_;rotate_left 2
 rotate_left
 any_goals (intro wy hSw;(try dsimp only at hSw);obtain ⟨ql,qb⟩:=hSw;have k0:wy.cell? ⟨lb,0,none⟩=some (.pointer (some ⟨p,0,none⟩)):=ql.cell 0;have k2:wy.cell? ⟨lb,2,none⟩=some (.slice (some ⟨g,0,none⟩) nums.length c):=ql.cell 2;have m0:wy.cell? ⟨b,0,none⟩=some _:=qb.cell 0;have m1:wy.cell? ⟨b,1,none⟩=some _:=qb.cell 1;have m2:wy.cell? ⟨b,2,none⟩=some _:=qb.cell 2;go_simp;try (with_reducible rfl))
 try simp only [Act.put,List.setIfInBounds_toArray,List.set_cons_zero,List.set_cons_succ]
 refine Late.Goes.done (by kernel_rfl) ?_ _
 have HB1:=Lib.hid (HB.out.trans ((Below.refl _ W).drew.mono HB.out.size))
 obtain ⟨w1,hw1⟩:∃ V,V=W.drew:=⟨_,rfl⟩
 rw [← hw1] at HS1 HB1 ⊢
 clear hw1
 have k6:w1.cell? ⟨lb,6,none⟩=some (.bool false):=HS1.out.1.log.cell 6
 have k0:w1.cell? ⟨lb,0,none⟩=some (.pointer (some ⟨p,0,none⟩)):=HS1.out.1.log.cell 0
 have cD:=dsk_down HS1.out.1.dsk
 rw [H0.out.2.1] at cD
 go_wp2_with fail
 refine cD.mono ?_
 rintro e w' ⟨rfl,rfl⟩
 clear cD k6 k0
 go_wp2_with fail
 refine Late.region_goes (fun V=>Disk.Blk V lb 72 (logC p limit g nums.length c base begun vz false)∧Disk.Blk V b 47 #[.int .i64 (i:Int),.int .i64 (at_:Int),.int .i64 (len:Int)]) (fun _=>false) (by kernel_rfl) ?_ (fun hH=>?_)
 ·exact ⟨(HS1.out.1.below ((Below.refl _ w1).drew)).log,HS1.out.2.but ((But.refl (fun _=>False) w1).drew) (fun h=>h)⟩
 refine Late.tk 0 ?_ ?_ hH ?_;rotate_left 2
 refine Late.tk 1 ?_ ?_ hH ?_;rotate_left 2
 refine Late.tk 2 ?_ ?_ hH ?_;rotate_left 2
 refine Late.tk 3 ?_ ?_ hH ?_;rotate_left 2
 refine Late.tk 4 ?_ ?_ hH ?_;rotate_left 2
 refine Late.tk 5 ?_ ?_ hH ?_;rotate_left 2
 refine Late.tk 7 ?_ ?_ hH ?_;rotate_left 2
 refine Late.tk 8 ?_ ?_ hH ?_;rotate_left 2
 refine Late.tk 9 ?_ ?_ hH ?_;rotate_left 2
 refine Late.tk 10 ?_ ?_ hH ?_;rotate_left 2
 rotate_left
 any_goals (intro wy hSw;(try dsimp only at hSw);obtain ⟨ql,qb⟩:=hSw;have k0:wy.cell? ⟨lb,0,none⟩=some (.pointer (some ⟨p,0,none⟩)):=ql.cell 0;have k2:wy.cell? ⟨lb,2,none⟩=some (.slice (some ⟨g,0,none⟩) nums.length c):=ql.cell 2;have m0:wy.cell? ⟨b,0,none⟩=some _:=qb.cell 0;have m1:wy.cell? ⟨b,1,none⟩=some _:=qb.cell 1;have m2:wy.cell? ⟨b,2,none⟩=some _:=qb.cell 2;go_simp;try (with_reducible rfl))
 try simp only [Act.put,List.setIfInBounds_toArray,List.set_cons_zero,List.set_cons_succ]
 refine Late.Goes.one (i:=6) (by kernel_rfl) (by simp only [List.getElem?_toArray,List.getElem?_cons_succ,List.getElem?_cons_zero];rfl) (fun K hK=>?_)
 clear hH
 go_simp
 go_at_call 44
 refine (segmentFile_any i (by omega) (.inl hi1)).mono ?_
 rintro e w2 ⟨rfl,hb2⟩
 have hb2:=((Below.refl _ w1).drew).trans hb2
 have HS2:=Lib.hid (And.intro (HS1.out.1.below hb2) (HS1.out.2.but (But.of_new hb2 (S:=fun _=>False)) (fun h=>h)))
 have HB2:=Lib.hid (HB1.out.trans (hb2.mono HB1.out.size))
 clear hb2
 refine hK.out _ _ ?_ (fun hH=>?_)
 ·exact fun _=>⟨HS2.out.1.log,HS2.out.2⟩
 clear hK K
 have hH:=hH rfl
 try simp only [Act.put,List.setIfInBounds_toArray,List.set_cons_zero,List.set_cons_succ]
 refine Late.Goes.one (i:=11) (by kernel_rfl) (by simp only [List.getElem?_toArray,List.getElem?_cons_succ,List.getElem?_cons_zero];rfl) (fun K hK=>?_)
 clear hH
 go_simp
 go_at_call 43
 refine (dsk_part HS2.out.1.dsk H0.out.2.1 (segB i) (segB_size i (by omega)) H0.out.1 at_ len hln).mono ?_
 rintro e w3 ⟨a3,c3,rfl,hr3,hb3,h31,h32,h33⟩
 rw [errV_ok rfl]
 have HS3:=Lib.hid (And.intro (HS2.out.1.below hb3) (HS2.out.2.but (But.of_new hb3 (S:=fun _=>False)) (fun h=>h)))
 have HB3:=Lib.hid (HB2.out.trans (hb3.mono HB2.out.size))
 have c4:=scan_new a3 len c3 _ w3 ⟨hr3,h31,h32,h33⟩ (by omega)
 clear hr3 hb3 h31 h32 h33
 refine hK.out _ _ ?_ (fun hH=>?_)
 ·exact fun _=>⟨HS3.out.1.log,HS3.out.2⟩
 clear hK K
 have hH:=hH rfl
 try simp only [Act.put,List.setIfInBounds_toArray,List.set_cons_zero,List.set_cons_succ]
 refine Late.tk 12 ?_ ?_ hH ?_;rotate_left 2
 refine Late.tk 13 ?_ ?_ hH ?_;rotate_left 2
 refine Late.tk 14 ?_ ?_ hH ?_;rotate_left 2
 refine Late.tk 15 ?_ ?_ hH ?_;rotate_left 2
 refine Late.tk 16 ?_ ?_ hH ?_;rotate_left 2
 rotate_left
 any_goals (intro wy hSw;(try dsimp only at hSw);obtain ⟨ql,qb⟩:=hSw;have k0:wy.cell? ⟨lb,0,none⟩=some (.pointer (some ⟨p,0,none⟩)):=ql.cell 0;have k2:wy.cell? ⟨lb,2,none⟩=some (.slice (some ⟨g,0,none⟩) nums.length c):=ql.cell 2;have m0:wy.cell? ⟨b,0,none⟩=some _:=qb.cell 0;have m1:wy.cell? ⟨b,1,none⟩=some _:=qb.cell 1;have m2:wy.cell? ⟨b,2,none⟩=some _:=qb.cell 2;go_simp;try (with_reducible rfl))
 try simp only [Act.put,List.setIfInBounds_toArray,List.set_cons_zero,List.set_cons_succ]
 refine Late.Goes.done (by kernel_rfl) ?_ _
 go_wp2_with fail
 refine c4.mono ?_
 rintro e w4 ⟨hb4,gs,a4,c4',hgp,rfl,hpc,-,-⟩
 rw [H0.out.2.2.1] at hgp ⊢
 obtain ⟨g0,rfl⟩:∃ g0,gs=[g0]:=by
  rcases gs with _|⟨g0,r⟩
  ·simp at hgp
  ·rcases r with _|⟨g1,r⟩
   ·exact ⟨g0,rfl⟩
   ·simp at hgp
 have hg0:g0.p=⟨0,len,l⟩:=by simpa using hgp
 have htot:total [(⟨0,len,l⟩:Torn.Pc)]=len:=by simp [total]
 rw [htot]
 obtain ⟨b4,off4,rfl,hbl4,hcl4⟩:=hpc.2 (by simp)
 have e2:w4.cell? ⟨b4,off4+2,none⟩=some (.slice g0.a l.length g0.cap):=by
  have h1:=hcl4 0 (by simp) 2 _ rfl
  have h2:(Value.slice g0.a g0.p.l.length g0.cap) = .slice g0.a l.length g0.cap:=by rw [hg0]
  have e0:off4+0 * 3+2=off4+2:=by omega
  rw [e0] at h1
  exact h1.trans (congrArg some h2)
 have m2:w4.cell? ⟨b,2,none⟩=some (.int .i64 (len:Int)):=(HS3.out.2.but (But.of_new hb4 (S:=fun _=>False)) (fun h=>h)).cell 2
 have HR:=Lib.hid (show Rec.Recs w4 g0.a l by have:=hpc.1 g0 (List.mem_singleton.2 rfl);rw [hg0] at this;exact this)
 have HB4:=Lib.hid (HB3.out.trans (hb4.mono HB3.out.size))
 clear c4 hb4 hgp hpc hg0 htot hbl4 hcl4
 go_wp2_with fail
 go_ret2
 exact ⟨_,_,rfl,HR.out,HB4.out⟩
end
end Go.Proofs.YtbhoknnjilidnaaGreatDoor.Seg
end
section
namespace Go.Proofs.YtbhoknnjilidnaaGreatDoor.Seg
open Go.Proofs.YtbhoknnjilidnaaGreatDoor.Mem
open Go.Proofs.YtbhoknnjilidnaaGreatDoor.Rec (Rcd Recs Is)
open Go.Proofs.YtbhoknnjilidnaaGreatDoor.Torn (Lists)
open Go.ChangeShapes Go.WideShapes Go.ChangeAt Go.RowKit
def pickN (c:Int):Nat:=((if c < 0 then -(c+1) else c) % 8).toNat
theorem pickN_lt (c:Int):pickN c < 8:=by unfold pickN;omega
theorem pick_any (c:Int) (h : -9223372036854775808≤c) (h':c≤9223372036854775807) (w:World) :
  Calls Tryz.prog 8 #[.int .i64 c,.int .i64 8] w fun e w'=>e = .returned (.int .i64 ((pickN c:Nat):Int))∧w'=w:=by
 by_cases hc:c < 0
 ·have e1:IntKind.i64.wrap (c+1)=c+1:=by rw [IntKind.wrap_i64];omega
  have e2:IntKind.i64.wrap (-(c+1)) = -(c+1):=by rw [IntKind.wrap_i64];omega
  have e3:(-(c+1)).tmod 8=((pickN c:Nat):Int):=by
   unfold pickN
   rw [if_pos hc,Int.tmod_eq_emod_of_nonneg (by omega)];omega
  have e4:IntKind.i64.wrap ((pickN c:Nat):Int)=((pickN c:Nat):Int):=by have:=pickN_lt c;rw [IntKind.wrap_i64];omega
  go_enter Tryz.func8,Tryz.ntmps8
  go_wp2
  go_ret
  exact ⟨by simp [e1,e2,e3,e4],rfl⟩
 ·have e3:c.tmod 8=((pickN c:Nat):Int):=by
   unfold pickN
   rw [if_neg hc,Int.tmod_eq_emod_of_nonneg (by omega)];omega
  have e4:IntKind.i64.wrap ((pickN c:Nat):Int)=((pickN c:Nat):Int):=by have:=pickN_lt c;rw [IntKind.wrap_i64];omega
  go_enter Tryz.func8,Tryz.ntmps8
  go_wp2
  go_ret
  exact ⟨by simp [e3,e4],rfl⟩
def stV (a:Option Addr) (n cap:Nat) (B:Int) (b:Bool):Value := .agg #[.slice a n cap,.int .i64 B,.bool b]
theorem st_size:(Tryz.prog.info? 36).map (·.size)=some 3:=by kernel_rfl
theorem heap_two (w:World) (x y:Obj):((w.alloc x).alloc y).heap[w.heap.size+1]?=some y:=by
 show ((w.heap.push x).push y)[w.heap.size+1]?=some y
 rw [Array.getElem?_push,if_pos (by simp)]
theorem below_two (w:World) (x y:Obj):Below w.heap.size w ((w.alloc x).alloc y):=((Below.refl _ w).alloc (Nat.le_refl _) _).alloc (by simp) _
theorem opened_no (a:Option Addr) (n cap:Nat) (B:Int) (b:Bool) (hB:B < 0) (w:World) :
  Calls Tryz.prog 20 #[stV a n cap B b] w fun e w'=>e = .returned (stV a n cap (-1) b)∧Below w.heap.size w w':=by
 unfold stV
 go_enter Tryz.func20,Tryz.ntmps20
 go_wp2
 exact bodyPost_ret (results_cell_row rfl _ _ (w.heap.size+1) 36 _ (0,0) _ rfl (heap_two w _ _) Tryz.underlying36 rfl st_size) rfl ⟨rfl,below_two w _ _⟩
theorem opened_yes (g off n cap B:Nat) (b:Bool) (hB:B≤cap) (hc:cap≤9223372036854775807) (w:World) :
  Calls Tryz.prog 20 #[stV (some ⟨g,off,none⟩) n cap (B:Int) b] w fun e w'=>e = .returned (stV (some ⟨g,off,none⟩) B cap (-1) b)∧Below w.heap.size w w':=by
 unfold stV
 go_enter Tryz.func20,Tryz.ntmps20
 go_wp2
 exact bodyPost_ret (results_cell_row rfl _ _ (w.heap.size+1) 36 _ (0,0) _ rfl (heap_two w _ _) Tryz.underlying36 rfl st_size) rfl ⟨rfl,below_two w _ _⟩
theorem opened_none (b:Bool) (w:World) :
  Calls Tryz.prog 20 #[stV none 0 0 0 b] w fun e w'=>e = .returned (stV none 0 0 (-1) b)∧Below w.heap.size w w':=by
 unfold stV
 go_enter Tryz.func20,Tryz.ntmps20
 go_wp2
 exact bodyPost_ret (results_cell_row rfl _ _ (w.heap.size+1) 36 _ (0,0) _ rfl (heap_two w _ _) Tryz.underlying36 rfl st_size) rfl ⟨rfl,below_two w _ _⟩
end Go.Proofs.YtbhoknnjilidnaaGreatDoor.Seg
end
section
namespace Go.Proofs.YtbhoknnjilidnaaGreatDoor.Seg
open Go.Proofs.YtbhoknnjilidnaaGreatDoor.Mem
open Go.Proofs.YtbhoknnjilidnaaGreatDoor.Rec (Rcd Recs Is okBody refBody_any)
open Go.Proofs.YtbhoknnjilidnaaGreatDoor.Torn (Lists)
open Go.ChangeShapes Go.WideShapes Go.ChangeAt Go.RowKit
def deedV (what:Int) (a:Option Addr) (n cap:Nat) (dn:Bool) (ef kp:Int):Value := .agg #[.int .i64 what,.slice a n cap,.bool dn,.int .i64 ef,.int .i64 kp]
theorem heap_in3 (w:World) (x y z:Obj):(((w.alloc x).alloc y).alloc z).heap[w.heap.size+2]?=some z:=by
 show (((w.heap.push x).push y).push z)[w.heap.size+2]?=some z
 rw [Array.getElem?_push,if_pos (by simp)]
theorem below_in3 (w:World) (x y z:Obj):Below w.heap.size w (((w.alloc x).alloc y).alloc z):=(((Below.refl _ w).alloc (Nat.le_refl _) _).alloc (by simp) _).alloc (by simp;omega) _
theorem done_five (a:Option Addr) (n cap:Nat) (B:Int) (b:Bool) (what:Int) (hw:pickN what=5) (h1 : -9223372036854775808≤what) (h2:what≤9223372036854775807) (a1:Option Addr) (n1 c1:Nat) (dn:Bool) (ef kp:Int) (w:World) :
  Calls Tryz.prog 11 #[stV a n cap B b,deedV what a1 n1 c1 dn ef kp] w fun e w'=>e = .returned (.tuple #[stV a n cap (n:Int) true,.int .i64 0])∧Below w.heap.size w w':=by
 unfold stV deedV
 have hp:=pick_any what h1 h2
 rw [hw] at hp
 have HP:=Lib.hid hp
 clear hp hw h1 h2
 go_enter Tryz.func11,Tryz.ntmps11
 go_wp2_with fail
 refine (HP.out _).mono ?_
 rintro e w' ⟨rfl,rfl⟩
 go_wp2
 exact bodyPost_ret (Rec.results_row_tmp rfl _ _ (w.heap.size+2) 36 _ (0,0) _ rfl (heap_in3 w _ _ _) Tryz.underlying36 rfl st_size) rfl ⟨rfl,below_in3 w _ _ _⟩
theorem done_six_no (a:Option Addr) (n cap:Nat) (B:Int) (hB:B < 0) (b:Bool) (what:Int) (hw:pickN what=6) (h1 : -9223372036854775808≤what) (h2:what≤9223372036854775807) (a1:Option Addr) (n1 c1:Nat) (dn:Bool) (ef kp:Int) (w:World) :
  Calls Tryz.prog 11 #[stV a n cap B b,deedV what a1 n1 c1 dn ef kp] w fun e w'=>e = .returned (.tuple #[stV a n cap B b,.int .i64 1])∧Below w.heap.size w w':=by
 unfold stV deedV
 have hp:=pick_any what h1 h2
 rw [hw] at hp
 have HP:=Lib.hid hp
 clear hp hw h1 h2
 go_enter Tryz.func11,Tryz.ntmps11
 go_wp2_with fail
 refine (HP.out _).mono ?_
 rintro e w' ⟨rfl,rfl⟩
 go_wp2
 exact bodyPost_ret (Rec.results_row_tmp rfl _ _ (w.heap.size+2) 36 _ (0,0) _ rfl (heap_in3 w _ _ _) Tryz.underlying36 rfl st_size) rfl ⟨rfl,below_in3 w _ _ _⟩
theorem done_six_lt (g off n cap B:Nat) (hB:B≤n) (hBc:B < cap) (hn:n≤cap) (hc:cap≤9223372036854775807) (b:Bool) (what:Int) (hw:pickN what=6) (h1 : -9223372036854775808≤what) (h2:what≤9223372036854775807) (a1:Option Addr) (n1 c1:Nat) (dn:Bool) (ef kp:Int) (w:World) :
  Calls Tryz.prog 11 #[stV (some ⟨g,off,none⟩) n cap (B:Int) b,deedV what a1 n1 c1 dn ef kp] w fun e w'=>e = .returned (.tuple #[stV (some ⟨g,off+B,none⟩) (n - B) (cap - B) (-1) false,.int .i64 0])∧Below w.heap.size w w':=by
 unfold stV deedV
 have hp:=pick_any what h1 h2
 rw [hw] at hp
 have HP:=Lib.hid hp
 clear hp hw h1 h2
 go_enter Tryz.func11,Tryz.ntmps11
 go_wp2_with fail
 refine (HP.out _).mono ?_
 rintro e w' ⟨rfl,rfl⟩
 go_wp2
 exact bodyPost_ret (Rec.results_row_tmp rfl _ _ (w.heap.size+2) 36 _ (0,0) _ rfl (heap_in3 w _ _ _) Tryz.underlying36 rfl st_size) rfl ⟨rfl,below_in3 w _ _ _⟩
end Go.Proofs.YtbhoknnjilidnaaGreatDoor.Seg
end

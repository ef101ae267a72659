/- Contract: records are appended to a log. Contract: records are appended to a log: what it comes to. -/
import Derived.Test.YtbhoknnjilidnaaGreatDoorG36
set_option linter.unusedSimpArgs false
set_option linter.unusedVariables false
set_option maxHeartbeats 16000000
set_option maxRecDepth 100000
section
namespace Go.Proofs.YtbhoknnjilidnaaGreatDoor.Seg
open Go.Proofs.YtbhoknnjilidnaaGreatDoor.Mem
open Go.Proofs.YtbhoknnjilidnaaGreatDoor.Disk (Nm File St Eff Has grow errV used lenOf run)
open Go.Proofs.YtbhoknnjilidnaaGreatDoor.Rec (Rcd Recs Is okBody)
open Go.Proofs.YtbhoknnjilidnaaGreatDoor.Frame (frm)
open Go.ChangeShapes Go.WideShapes Go.ChangeAt Go.RowKit
section
variable {w w1 w2 W W':World} {p lb g g1 g2 c:Nat} {S S1 S2:St} {F F1 F2:Nat→Prop} {limit:Int} {nums:List Nat} {base:Nat} {begun:Bool} {zs:List Nat} {vz vz1 vz2:Value}
theorem closure_append {b2 b8:Nat} (h2:w.cell? ⟨b2,0,none⟩=some (.pointer (some ⟨lb,0,none⟩))) {a:Option Addr} {len cap:Nat} (h8:w.cell? ⟨b8,0,none⟩=some (.slice a len cap)) {Q:Ending→World→Prop}
  (hp:Calls Tryz.prog 38 #[.pointer (some ⟨lb,0,none⟩),.slice a len cap] w Q) (hQ:∀ e w',Q e w'→∃ v,e = .returned v) :
  Calls Tryz.prog 37 #[.pointer (some ⟨b2,0,none⟩),.pointer (some ⟨b8,0,none⟩)] w Q:=by
 go_enter Tryz.func37,Tryz.ntmps37
 go_wp2_with fail
 refine hp.mono ?_
 intro e w' hq
 obtain ⟨v,rfl⟩:=hQ e w' hq
 go_wp2_with fail
 exact hq
def AttAfter (w:World) (p lb g:Nat) (F:Nat→Prop) (limit:Int) (vz:Value) (r:Int × St) (nums1:List Nat) (base1:Nat) (begun1:Bool) (zs1:List Nat) (e:Ending) (w':World):Prop :=
 ∃ F1 g1 c1 vz1,KeptG w w' lb g F F1 vz g1 vz1∧((r.1=0∧e = .returned .nilIface∧SysAt w' p lb r.2 limit nums1 base1 begun1 zs1 false F1 g1 c1 vz1)∨(r.1≠0∧e = .returned (errV r.1)∧∃ nums2 base2 begun2 zs2,SysAt w' p lb r.2 limit nums2 base2 begun2 zs2 true F1 g1 c1 vz1))
theorem SysAt.fail (h:SysAt w p lb S limit nums base begun zs false F g c vz):SysAt (w.setCell ⟨lb,6,none⟩ (.bool true)) p lb S limit nums base begun zs true F g c vz∧KeptG w (w.setCell ⟨lb,6,none⟩ (.bool true)) lb g F F vz g vz:=by
 have hb:=Disk.but_set w lb 6 (.bool true)
 have hzl:∀ k,vz.ownBlock=some k→k≠lb:=fun k hk e=>Disk.own_blk_ne h.siz h.log (by decide) (e ▸ hk)
 refine ⟨⟨h.dsk.but_ hb (fun k hk e=>h.flb ((show k=lb from e) ▸ hk)),h.log.set_ 6 _,h.nms.but hb (fun e=>h.gl e),ownsRow_but h.siz hb (fun k hk e=>hzl k hk e),h.flb,h.fg,h.fz,h.gl⟩,KeptG.store hb (fun k hk => .inl hk)⟩
theorem attempt_append {b2 b8:Nat} (h:SysAt w p lb S limit nums base begun zs false F g c vz) (h2:w.cell? ⟨b2,0,none⟩=some (.pointer (some ⟨lb,0,none⟩))) {a:Option Addr} {len cap:Nat} (h8:w.cell? ⟨b8,0,none⟩=some (.slice a len cap)) {r:Int × St} {nums1:List Nat} {base1:Nat} {begun1:Bool} {zs1:List Nat}
  (hp:Calls Tryz.prog 38 #[.pointer (some ⟨lb,0,none⟩),.slice a len cap] w (DoneAfter w p lb g F limit vz r nums1 base1 begun1 zs1)) :
  Calls Tryz.prog 31 #[.pointer (some ⟨lb,0,none⟩),.func (.func 37) #[] #[.pointer (some ⟨b2,0,none⟩),.pointer (some ⟨b8,0,none⟩)]] w (AttAfter w p lb g F limit vz r nums1 base1 begun1 zs1):=by
 have k6:w.cell? ⟨lb,6,none⟩=some (.bool false):=h.log.cell 6
 have HC:=Lib.hid (closure_append h2 h8 hp (fun e w' ⟨_,_,_,_,_,hc⟩=>by rcases hc with ⟨_,rfl,_⟩|⟨_,rfl,_⟩ <;> exact ⟨_,rfl⟩))
 clear h h2 h8 hp
 go_enter Tryz.func31,Tryz.ntmps31
 go_wp2_with fail
 refine HC.out.mono ?_
 rintro e w1 ⟨F1,g1,c1,vz1,hK,⟨hr0,rfl,hS⟩|⟨hr0,rfl,nums2,base2,begun2,zs2,hS⟩⟩
 ·have HK:=Lib.hid (And.intro hK (And.intro hr0 hS))
  clear hK hr0 hS HC
  go_wp2_with fail
  go_ret
  exact ⟨F1,g1,c1,vz1,HK.out.1,.inl ⟨HK.out.2.1,rfl,HK.out.2.2⟩⟩
 ·have hv:=errV_bad hr0
  rw [hv]
  have HV:=Lib.hid (And.intro hr0 hv)
  have HK:=Lib.hid (And.intro hK hS)
  have l6:w1.cell? ⟨lb,6,none⟩=some (.bool false):=hS.log.cell 6
  have y6:w1.frozen? ⟨lb,6,none⟩=false:=hS.log.frozen 6
  clear hK hr0 hS HC hv
  go_wp2_with fail
  go_ret
  obtain ⟨q1,q2⟩:=HK.out.2.fail
  exact ⟨F1,g1,c1,vz1,HK.out.1.trans q2,.inr ⟨HV.out.1,by rw [HV.out.2];rfl,nums2,base2,begun2,zs2,q1⟩⟩
theorem attempt_failed (h6:w.cell? ⟨lb,6,none⟩=some (.bool true)) (fv:Value) (hfv:∃ fn a b,fv = .func fn a b) :
  Calls Tryz.prog 31 #[.pointer (some ⟨lb,0,none⟩),fv] w fun e w'=>e = .returned (errV 15)∧w=w':=by
 obtain ⟨fn,a,b,rfl⟩:=hfv
 go_enter Tryz.func31,Tryz.ntmps31
 go_wp2_with fail
 go_ret
 exact ⟨rfl,rfl⟩
def spV (i at_ len:Int):Value := .agg #[.int .i64 i,.int .i64 at_,.int .i64 len]
theorem spot_size:(Tryz.prog.info? 47).map (·.size)=some 3:=by kernel_rfl
def AppAfter (w:World) (p lb g:Nat) (F:Nat→Prop) (limit:Int) (vz:Value) (r:Int × St) (nums1:List Nat) (base1:Nat) (begun1:Bool) (zs1:List Nat) (i1 at_ len:Nat) (e:Ending) (w':World):Prop :=
 ∃ F1 g1 c1 vz1,KeptG w w' lb g F F1 vz g1 vz1∧((r.1=0∧e = .returned (.tuple #[spV i1 at_ len,.nilIface])∧SysAt w' p lb r.2 limit nums1 base1 begun1 zs1 false F1 g1 c1 vz1)∨(r.1≠0∧e = .returned (.tuple #[spV 0 0 0,errV r.1])∧∃ nums2 base2 begun2 zs2,SysAt w' p lb r.2 limit nums2 base2 begun2 zs2 true F1 g1 c1 vz1))
theorem spot_ret {b:Nat} {x y z:Value} (h:Disk.Blk w b 47 #[x,y,z]):w.cell? ⟨b,0,none⟩=some x∧w.cell? ⟨b,1,none⟩=some y∧w.cell? ⟨b,2,none⟩=some z∧w.frozen? ⟨b,0,none⟩=false∧w.frozen? ⟨b,1,none⟩=false∧w.frozen? ⟨b,2,none⟩=false:=⟨h.cell 0,h.cell 1,h.cell 2,h.frozen 0,h.frozen 1,h.frozen 2⟩
theorem below_kept {failed:Bool} (h:SysAt w p lb S limit nums base begun zs failed F g c vz) (hb:Below w.heap.size w w1):KeptG w w1 lb g F F vz g vz:=KeptG.below h.dsk.lt hb
theorem append_no (failed:Bool) (h:SysAt w p lb S limit nums base begun zs failed F g c vz) {a:Option Addr} {cap:Nat} {l:List Rcd} (hr:Recs w a l) (hl:l.length≤1000000) (hno:¬ okBody l) :
  Calls Tryz.prog 14 #[.pointer (some ⟨lb,0,none⟩),.slice a l.length cap] w fun e w'=>e = .returned (.tuple #[spV 0 0 0,errV 1])∧Below w.heap.size w w':=by
 have hb2:=((Below.refl _ w).alloc (Nat.le_refl _) (.cells #[.pointer (some ⟨lb,0,none⟩)] 26)).alloc (by simp) (.cells #[.int .i64 0,.int .i64 0,.int .i64 0] 47)
 have hx:Disk.Blk ((w.alloc (.cells #[.pointer (some ⟨lb,0,none⟩)] 26)).alloc (.cells #[.int .i64 0,.int .i64 0,.int .i64 0] 47)) (w.heap.size+1) 47 #[.int .i64 0,.int .i64 0,.int .i64 0]:=by
  have:=Disk.Blk.new (w.alloc (.cells #[.pointer (some ⟨lb,0,none⟩)] 26)) 47 #[.int .i64 0,.int .i64 0,.int .i64 0]
  simpa using this
 have c1:=Rec.recPut_any a cap l _ (hr.below hb2) (by omega)
 have HB:=Lib.hid hb2
 have HX:=Lib.hid hx
 have HN:=Lib.hid hno
 clear h hr hb2 hx hno
 go_enter Tryz.func14,Tryz.ntmps14
 go_wp2_with fail
 refine c1.mono ?_
 rintro e w1 ⟨hb1,⟨hok,_⟩|⟨_,rfl⟩⟩
 ·exact absurd hok HN.out
 ·have HX1:=Lib.hid (HX.out.but (But.of_new hb1 (S:=fun _=>False)) (fun h=>h))
  have HB1:=Lib.hid (HB.out.trans (hb1.mono HB.out.size))
  obtain ⟨z0,z1,z2,y0,y1,y2⟩:=spot_ret HX1.out
  clear c1 hb1
  go_wp2
  refine bodyPost_ret (Rec.results_row_tmp rfl _ _ (w.heap.size+1) 47 #[.int .i64 0,.int .i64 0,.int .i64 0] (0,0) _ rfl (((HX1.out.set_ 0 (.int .i64 0)).set_ 1 (.int .i64 0)).set_ 2 (.int .i64 0)) Tryz.underlying47 rfl spot_size) rfl ?_
  exact ⟨rfl,below_set3 HB1.out (Nat.le_succ _) _ _ _⟩
end
end Go.Proofs.YtbhoknnjilidnaaGreatDoor.Seg
end
section
namespace Go.Proofs.YtbhoknnjilidnaaGreatDoor.Seg
open Go.Proofs.YtbhoknnjilidnaaGreatDoor.Mem
open Go.Proofs.YtbhoknnjilidnaaGreatDoor.Disk (Nm File St Eff Has grow errV used lenOf run)
open Go.Proofs.YtbhoknnjilidnaaGreatDoor.Rec (Rcd Recs Is okBody)
open Go.Proofs.YtbhoknnjilidnaaGreatDoor.Frame (frm)
open Go.ChangeShapes Go.WideShapes Go.ChangeAt Go.RowKit
section
variable {w w1 w2 W W':World} {p lb g g1 g2 c:Nat} {S S1 S2:St} {F F1 F2:Nat→Prop} {limit:Int} {nums:List Nat} {base:Nat} {begun:Bool} {zs:List Nat} {vz vz1 vz2:Value}
theorem SysAt.but_ {failed:Bool} {T:Nat→Prop} (h:SysAt w p lb S limit nums base begun zs failed F g c vz) (hb:But T w w1) (hT:∀ k,foot lb g vz F k→¬ T k):SysAt w1 p lb S limit nums base begun zs failed F g c vz :=
 ⟨h.dsk.but_ hb (fun k hk=>hT k (.inl hk)),h.log.but hb (hT _ (.inr (.inl rfl))),h.nms.but hb (hT _ (.inr (.inr (.inl rfl)))),ownsRow_but h.siz hb (fun k hk=>hT k (.inr (.inr (.inr hk)))),h.flb,h.fg,h.fz,h.gl⟩
theorem KeptG.new {T:Nat→Prop} (h:KeptG w w1 lb g F F1 vz g1 vz1) (hb:But T w1 w2) (hT:∀ k,T k→w.heap.size≤k):KeptG w w2 lb g F F1 vz g1 vz1 :=
 ⟨fun j hj=>by
  have:=hb.size
  rcases h.sub j hj with h1|h1
  ·exact .inl h1
  ·exact .inr ⟨h1.1,by omega⟩,h.but.trans hb (fun i hi ht=>by have:=hT i ht;omega),h.own,h.gs⟩
theorem append_yes (h:SysAt w p lb S limit nums base begun zs false F g c vz) {a:Option Addr} {cap:Nat} {l:List Rcd} (hr:Recs w a l) (hl:l.length≤1000000) (hok:okBody l) {len:Nat} {fs:List Int} (hfs:fs=frm (Rec.body l)) (hlen:len=(Rec.body l).length+8)
  {r:Int × St} {nums1:List Nat} {base1:Nat} {begun1:Bool} {zs1:List Nat}
  (hp:∀ W a' cap',Below w.heap.size w W→Row W a' len fs→(a'=none→cap'=0)→(∀ q,a'=some q→0 < len→w.heap.size≤q.block)→Calls Tryz.prog 38 #[.pointer (some ⟨lb,0,none⟩),.slice a' len cap'] W (DoneAfter W p lb g F limit vz r nums1 base1 begun1 zs1))
  (hz0:0 < zs1.length) (hz1:zs1.length≤1000) {i1:Nat} (hi1:nums1.getLast?=some i1) (hi2:i1≤1000) (hn1:nums1.length≤1000) {at_:Nat} (hat:zs1[zs1.length - 1]'(by omega)=at_+len) (hatm:at_≤3000000000) :
  Calls Tryz.prog 14 #[.pointer (some ⟨lb,0,none⟩),.slice a l.length cap] w (AppAfter w p lb g F limit vz r nums1 base1 begun1 zs1 i1 at_ len):=by
 have hby:=Rec.body_bytes l
 have hbl:1≤(Rec.body l).length:=Torn.body_pos hok
 have hbm:(Rec.body l).length≤20000:=hok.2.2
 obtain ⟨WA,hWA⟩:∃ W,W=w.alloc (.cells #[.pointer (some ⟨lb,0,none⟩)] 26):=⟨_,rfl⟩
 have hbA:Below w.heap.size w WA:=hWA ▸ (Below.refl _ w).alloc (Nat.le_refl _) _
 have hxA:Disk.Blk WA w.heap.size 26 #[.pointer (some ⟨lb,0,none⟩)]:=hWA ▸ Disk.Blk.new _ _ _
 have hsA:WA.heap.size=w.heap.size+1:=by rw [hWA];simp
 obtain ⟨WB,hWB⟩:∃ W,W=WA.alloc (.cells #[.int .i64 0,.int .i64 0,.int .i64 0] 47):=⟨_,rfl⟩
 have hbB':Below WA.heap.size WA WB:=hWB ▸ (Below.refl _ WA).alloc (Nat.le_refl _) _
 have hbB:Below w.heap.size w WB:=hbA.trans (hbB'.mono (by omega))
 have hxB:Disk.Blk WB (w.heap.size+1) 47 #[.int .i64 0,.int .i64 0,.int .i64 0]:=by
  have:=Disk.Blk.new WA 47 #[.int .i64 0,.int .i64 0,.int .i64 0]
  rw [hsA] at this
  exact hWB ▸ this
 have hxA2:=hxA.but (But.of_new hbB' (S:=fun _=>False)) (fun h=>h)
 have hsB:WB.heap.size=w.heap.size+2:=by rw [hWB];simp [hsA]
 have hWe:WB=(w.alloc (.cells #[.pointer (some ⟨lb,0,none⟩)] 26)).alloc (.cells #[.int .i64 0,.int .i64 0,.int .i64 0] 47):=by rw [hWB,hWA]
 have c1:=Rec.recPut_any a cap l _ (hr.below hbB) (by omega)
 have H0:=Lib.hid (And.intro h (And.intro hby (And.intro hfs hlen)))
 have HP:=Lib.hid hp
 have HB:=Lib.hid hbB
 have HX:=Lib.hid (And.intro hxA2 hxB)
 have HK:=Lib.hid hok
 have HSZ:=Lib.hid hsB
 have HI:=Lib.hid (And.intro hi1 hat)
 obtain ⟨b2,hb2⟩:∃ b,b=w.heap.size:=⟨_,rfl⟩
 obtain ⟨b4,hb4⟩:∃ b,b=w.heap.size+1:=⟨_,rfl⟩
 rw [← hb4,← hb2] at HX
 have HBB:=Lib.hid (And.intro hb2 hb4)
 clear h hr hp hbA hbB hbB' hxA hxB hxA2 hsA hsB hok hi1 hby hfs hWA hWB hat
 go_enter Tryz.func14,Tryz.ntmps14
 go_wp2_with fail
 rw [← hWe,← hb4,← hb2]
 clear hWe hb2 hb4
 refine c1.mono ?_
 rintro e w1 ⟨hb1,⟨_,v,rfl,ho1⟩|⟨hno,rfl⟩⟩
 ·obtain ⟨a1,cp1,rfl,hr1,-,hD1⟩:=own_shape ho1 H0.out.2.1
  have hn1':a1=none→cp1=0:=fun hn=>by rcases hD1 with ⟨_,h,_⟩|⟨g1,h1,_⟩;exact h;rw [hn] at h1;cases h1
  have c2:=Frame.put_yes a1 cp1 (Rec.body l) w1 hr1 hn1' hbl hbm
  rw [Err.errV_zero] at c2
  have HX1:=Lib.hid (And.intro (HX.out.1.but (But.of_new hb1 (S:=fun _=>False)) (fun h=>h)) (HX.out.2.but (But.of_new hb1 (S:=fun _=>False)) (fun h=>h)))
  have HB1:=Lib.hid (HB.out.trans (hb1.mono HB.out.size))
  have HW1:=Lib.hid (show w.heap.size+2≤w1.heap.size by have:=hb1.size;have:=HSZ.out;omega)
  clear c1 hb1 ho1 hr1 hD1 hn1'
  go_wp2_with fail
  refine c2.mono ?_
  rintro e w2 ⟨v2,rfl,ho2,hb2⟩
  obtain ⟨a2,cp2,rfl,hr2,-,hD2⟩:=own_shape ho2 (Frame.frm_bytes H0.out.2.1)
  have hn2':a2=none→cp2=0:=fun hn=>by rcases hD2 with ⟨_,h,_⟩|⟨g1,h1,_⟩;exact h;rw [hn] at h1;cases h1
  have hw1:=HB1.out.size
  have ha2:∀ q,a2=some q→0 < len→w.heap.size≤q.block:=fun q hq _=>by
   rcases hD2 with ⟨h1,_⟩|⟨g1,h1,h2,_⟩
   ·rw [h1] at hq;cases hq
   ·rw [h1] at hq
    injection hq with hq
    rw [← hq]
    exact Nat.le_trans hw1 h2
  have hbB2:=HB1.out.trans (hb2.mono hw1)
  have hx2:Disk.Blk w2 b2 26 #[.pointer (some ⟨lb,0,none⟩)]∧Disk.Blk w2 b4 47 #[.int .i64 0,.int .i64 0,.int .i64 0]:=⟨HX1.out.1.but (But.of_new hb2 (S:=fun _=>False)) (fun h=>h),HX1.out.2.but (But.of_new hb2 (S:=fun _=>False)) (fun h=>h)⟩
  rw [← hlen] at hr2
  have hbC:=(Below.refl _ w2).alloc (Nat.le_refl _) (.cells #[.slice a2 len cp2] 81)
  have hxC:Disk.Blk (w2.alloc (.cells #[.slice a2 len cp2] 81)) w2.heap.size 81 #[.slice a2 len cp2]:=Disk.Blk.new _ _ _
  have hbW:=hbB2.trans (hbC.mono hbB2.size)
  have hp:=HP.out _ a2 cp2 hbW (by rw [H0.out.2.2.1];exact hr2.below hbC) hn2' ha2
  have hsys:=H0.out.1.below hbW
  have hxW:Disk.Blk (w2.alloc (.cells #[.slice a2 len cp2] 81)) b2 26 #[.pointer (some ⟨lb,0,none⟩)]∧Disk.Blk (w2.alloc (.cells #[.slice a2 len cp2] 81)) b4 47 #[.int .i64 0,.int .i64 0,.int .i64 0]:=⟨hx2.1.but (But.of_new hbC (S:=fun _=>False)) (fun h=>h),hx2.2.but (But.of_new hbC (S:=fun _=>False)) (fun h=>h)⟩
  have kw2:(w2.alloc (.cells #[.slice a2 len cp2] 81)).cell? ⟨b2,0,none⟩=some (.pointer (some ⟨lb,0,none⟩)):=hxW.1.cell 0
  have kv2:w2.cell? ⟨b2,0,none⟩=some (.pointer (some ⟨lb,0,none⟩)):=hx2.1.cell 0
  have knb:b2≠w2.heap.size:=fun e=>by have:=hx2.1.lt;omega
  obtain ⟨W,hW⟩:∃ W,W=w2.alloc (.cells #[.slice a2 len cp2] 81):=⟨_,rfl⟩
  obtain ⟨b8,hb8⟩:∃ b,b=w2.heap.size:=⟨_,rfl⟩
  rw [← hW] at hxC hbW hp hsys hxW
  rw [← hb8] at hxC
  have cA:=attempt_append (b2:=b2) (b8:=b8) hsys (hxW.1.cell 0) (hxC.cell 0) hp
  have HXW:=Lib.hid (And.intro hxW.1 (And.intro hxW.2 hxC))
  have HKW:=Lib.hid (below_kept H0.out.1 hbW)
  have HSY:=Lib.hid hsys
  have HBW:=Lib.hid (And.intro hbW (show w2.heap.size=b8∧w.heap.size+2≤w2.heap.size from ⟨hb8.symm,Nat.le_trans HW1.out hb2.size⟩))
  have k2:W.cell? ⟨b2,0,none⟩=some (.pointer (some ⟨lb,0,none⟩)):=hxW.1.cell 0
  rw [show (Rec.body l).length+8=len from hlen.symm]
  clear c2 ho2 hb2 hr2 hD2 hn2' ha2 hbB2 hx2 hbC hxC hbW hp hsys hxW hlen
  go_wp2_with fail
  rw [← hW,← hb8]
  clear hW hb8 kw2 kv2 knb
  refine cA.mono ?_
  rintro e w3 ⟨F1,g1,c1,vz1,hK,hcase⟩
  have hFb:∀ b,w.heap.size≤b→¬ (F b∨b=lb∨vz.ownBlock=some b):=fun b hb h=>by
   rcases h with h|h|h
   ·have:=H0.out.1.dsk.lt b h;omega
   ·have:=H0.out.1.log.lt;omega
   ·have:=(H0.out.1.siz.lt b h).2;omega
  have hx3:=HXW.out.1.but hK.but (hFb b2 (by have:=HBB.out.1;omega))
  have hx4:=HXW.out.2.1.but hK.but (hFb b4 (by have:=HBB.out.2;omega))
  have hx8:=HXW.out.2.2.but hK.but (hFb b8 (by have:=HBW.out.2.1;have:=HBW.out.2.2;omega))
  have HX3:=Lib.hid (And.intro hx3 (And.intro hx4 hx8))
  have hft:∀ k,foot lb g1 vz1 F1 k→k < w.heap.size∨W.heap.size≤k:=fun k hk=>by
   have hbs:=HBW.out.1.size
   rcases hk with hk|hk|hk|hk
   ·rcases hK.sub k hk with h1|h1
    ·exact .inl (H0.out.1.dsk.lt k h1)
    ·exact .inr h1.1
   ·exact .inl (by rw [hk];exact H0.out.1.log.lt)
   ·rcases hK.gs with h1|h1
    ·exact .inl (by rw [hk,h1];exact H0.out.1.nms.lt)
    ·exact .inr (by omega)
   ·rcases hK.own k hk with h1|h1
    ·exact .inl (H0.out.1.siz.lt k h1).2
    ·exact .inr h1
  have hb4n:∀ k,foot lb g1 vz1 F1 k→k≠b4:=fun k hk e=>by
   have h1:=hft k hk
   have h2:=HBB.out.2
   have h3:=HXW.out.2.1.lt
   have h4:=HBW.out.2.2
   omega
  have HB4:=Lib.hid hb4n
  have HKT:=Lib.hid (HKW.out.trans hK)
  clear cA hx3 hx4 hx8 hFb k2 hK hft hb4n
  rcases hcase with ⟨hr0,rfl,hS⟩|⟨hr0,rfl,nums2,base2,begun2,zs2,hS⟩
  ·have HS:=Lib.hid (And.intro hr0 hS)
   obtain ⟨gz,cz,hvz⟩:=own_slice0 hS.siz hz0
   have hlc:=last_cell (hvz ▸ hS.siz) hz0
   rw [HI.out.2] at hlc
   have HVZ:=Lib.hid hvz
   have HLC:=Lib.hid hlc
   have hglt:=((hvz ▸ hS.siz:w3.ownsRow 0 3 1 (.slice (some ⟨gz,0,none⟩) zs1.length cz) zs1.length (intCells zs1)).lt gz rfl).2
   have hidx:zs1.length - 1 < zs1.length:=by omega
   have ew1:IntKind.i64.wrap ((zs1.length:Int) - 1)=((zs1.length - 1:Nat):Int):=by rw [IntKind.wrap_i64];omega
   have ew2:IntKind.i64.wrap (((at_+len:Nat):Int) - (len:Int))=(at_:Int):=by rw [IntKind.wrap_i64];have:=H0.out.2.2.2;omega
   have ew3:IntKind.i64.wrap ((at_:Int)+(len:Int) - (len:Int))=(at_:Int):=by rw [IntKind.wrap_i64];have:=H0.out.2.2.2;omega
   have ew4:(at_:Int)+(len:Int) - (len:Int)=(at_:Int):=by omega
   have ew5:IntKind.i64.wrap (at_:Int)=(at_:Int):=by rw [IntKind.wrap_i64];omega
   clear hr0 hS hvz hlc
   go_wp2_with fail
   refine Late.region_goes (fun V=>V.cell? ⟨b2,0,none⟩=some (.pointer (some ⟨lb,0,none⟩))∧V.cell? ⟨lb,5,none⟩=some (.slice (some ⟨gz,0,none⟩) zs1.length cz)∧V.cell? ⟨gz,zs1.length - 1,none⟩=some (.int .i64 ((at_+len:Nat):Int))∧V.cell? ⟨b8,0,none⟩=some (.slice a2 len cp2)) (fun _=>false) (by kernel_rfl) ?_ (fun hH=>?_)
   ·exact ⟨(HX3.out.1.but ((But.refl (fun _=>False) w3).drew) (fun h=>h)).cell 0,by rw [← HVZ.out];exact (HS.out.2.below ((Below.refl _ w3).drew)).log.cell 5,((Below.refl w3.heap.size w3).drew.cell (p:=⟨gz,zs1.length - 1,none⟩) hglt).trans HLC.out,(HX3.out.2.2.but ((But.refl (fun _=>False) w3).drew) (fun h=>h)).cell 0⟩
   refine Late.tk 0 ?_ ?_ hH ?_;rotate_left 2
   refine Late.tk 1 ?_ ?_ hH ?_;rotate_left 2
   refine Late.tk 2 ?_ ?_ hH ?_;rotate_left 2
   refine Late.tk 3 ?_ ?_ hH ?_;rotate_left 2
   refine Late.tk 4 ?_ ?_ hH ?_;rotate_left 2
   refine Late.tk 5 ?_ ?_ hH ?_;rotate_left 2
   refine Late.tk 6 ?_ ?_ hH ?_;rotate_left 2
   refine Late.tk 7 ?_ ?_ hH ?_;rotate_left 2
   refine Late.tk 8 ?_ ?_ hH ?_;rotate_left 2
   refine Late.tk 9 ?_ ?_ hH ?_;rotate_left 2
   refine Late.tk 10 ?_ ?_ hH ?_;rotate_left 2
   refine Late.tk 11 ?_ ?_ hH ?_;rotate_left 2
   refine Late.tk 12 ?_ ?_ hH ?_;rotate_left 2
   refine Late.tk 13 ?_ ?_ hH ?_;rotate_left 2
   refine Late.tk 14 ?_ ?_ hH ?_;rotate_left 2
   refine Late.tk 15 ?_ ?_ hH ?_;rotate_left 2
   rotate_left
   any_goals (intro wy hSw;(try dsimp only at hSw);obtain ⟨q2,q5,qz,q8⟩:=hSw;go_simp;try (with_reducible rfl))
   try simp only [Act.put,List.setIfInBounds_toArray,List.set_cons_zero,List.set_cons_succ]
   refine Late.Goes.done (by kernel_rfl) ?_ _
   have HS4:=Lib.hid (HS.out.2.below ((Below.refl _ w3).drew))
   have HX4:=Lib.hid (show Disk.Blk w3.drew b2 26 #[.pointer (some ⟨lb,0,none⟩)]∧Disk.Blk w3.drew b4 47 #[.int .i64 0,.int .i64 0,.int .i64 0]∧Disk.Blk w3.drew b8 81 #[.slice a2 len cp2] from ⟨HX3.out.1.but ((But.refl (fun _=>False) w3).drew) (fun h=>h),HX3.out.2.1.but ((But.refl (fun _=>False) w3).drew) (fun h=>h),HX3.out.2.2.but ((But.refl (fun _=>False) w3).drew) (fun h=>h)⟩)
   have HK4:=Lib.hid (HKT.out.trans (below_kept HS.out.2 ((Below.refl _ w3).drew)))
   obtain ⟨w4,hw4⟩:∃ W,W=w3.drew:=⟨_,rfl⟩
   rw [← hw4] at HS4 HX4 HK4 ⊢
   clear hw4
   go_wp2_with fail
   have c5:=last_any (HS4.out.below ((Below.refl _ w4).drew)).nms HI.out.1 base1 begun1
   unfold manV at c5
   have HC5:=Lib.hid c5
   clear c5
   refine Late.region_goes (fun V=>V.cell? ⟨b2,0,none⟩=some (.pointer (some ⟨lb,0,none⟩))∧Disk.Blk V lb 72 (logC p limit g1 nums1.length c1 base1 begun1 vz1 false)∧V.cell? ⟨b8,0,none⟩=some (.slice a2 len cp2)) (fun j=>decide (9≤j)) (by kernel_rfl) ?_ (fun hH=>?_)
   ·exact ⟨(HX4.out.1.but ((But.refl (fun _=>False) w4).drew) (fun h=>h)).cell 0,(HS4.out.below ((Below.refl _ w4).drew)).log,(HX4.out.2.2.but ((But.refl (fun _=>False) w4).drew) (fun h=>h)).cell 0⟩
   refine Late.tk 0 ?_ ?_ hH ?_;rotate_left 2
   refine Late.tk 1 ?_ ?_ hH ?_;rotate_left 2
   refine Late.tk 2 ?_ ?_ hH ?_;rotate_left 2
   refine Late.tk 3 ?_ ?_ hH ?_;rotate_left 2
   refine Late.tk 5 ?_ ?_ hH ?_;rotate_left 2
   refine Late.tk 6 ?_ ?_ hH ?_;rotate_left 2
   refine Late.tk 7 ?_ ?_ hH ?_;rotate_left 2
   rotate_left
   any_goals (intro wy hSw;(try dsimp only at hSw);obtain ⟨q2,ql,q8⟩:=hSw;have k2:wy.cell? ⟨lb,2,none⟩=some (.slice (some ⟨g1,0,none⟩) nums1.length c1):=ql.cell 2;have k3:wy.cell? ⟨lb,3,none⟩=some (.int .i64 (base1:Int)):=ql.cell 3;have k4:wy.cell? ⟨lb,4,none⟩=some (.bool begun1):=ql.cell 4;go_simp;try (with_reducible rfl))
   try simp only [Act.put,List.setIfInBounds_toArray,List.set_cons_zero,List.set_cons_succ]
   refine Late.Goes.one (i:=4) (by kernel_rfl) (by simp only [List.getElem?_toArray,List.getElem?_cons_succ,List.getElem?_cons_zero];rfl) (fun K hK=>?_)
   clear hH
   go_simp
   go_at_call 30
   refine HC5.out.mono ?_
   rintro e w5 ⟨rfl,hb5⟩
   have hb5:=((Below.refl _ w4).drew).trans hb5
   have HS5:=Lib.hid (HS4.out.below hb5)
   have HX5:=Lib.hid (And.intro (HX4.out.1.but (But.of_new hb5 (S:=fun _=>False)) (fun h=>h)) (And.intro (HX4.out.2.1.but (But.of_new hb5 (S:=fun _=>False)) (fun h=>h)) (HX4.out.2.2.but (But.of_new hb5 (S:=fun _=>False)) (fun h=>h))))
   have HK5:=Lib.hid (HK4.out.trans (below_kept HS4.out hb5))
   clear hb5 HC5
   refine hK.out _ _ ?_ (fun hH=>?_)
   ·exact fun _=>⟨HX5.out.1.cell 0,HS5.out.log,HX5.out.2.2.cell 0⟩
   clear hK K
   have hH:=hH rfl
   try simp only [Act.put,List.setIfInBounds_toArray,List.set_cons_zero,List.set_cons_succ]
   refine Late.tk 8 ?_ ?_ hH ?_;rotate_left 2
   rotate_left
   any_goals (intro wy hSw;(try dsimp only at hSw);obtain ⟨q2,ql,q8⟩:=hSw;have k2:wy.cell? ⟨lb,2,none⟩=some (.slice (some ⟨g1,0,none⟩) nums1.length c1):=ql.cell 2;have k3:wy.cell? ⟨lb,3,none⟩=some (.int .i64 (base1:Int)):=ql.cell 3;have k4:wy.cell? ⟨lb,4,none⟩=some (.bool begun1):=ql.cell 4;go_simp;try (with_reducible rfl))
   try simp only [Act.put,List.setIfInBounds_toArray,List.set_cons_zero,List.set_cons_succ]
   refine Late.Goes.one (i:=9) (by kernel_rfl) (by simp only [List.getElem?_toArray,List.getElem?_cons_succ,List.getElem?_cons_zero];rfl) (fun K hK=>?_)
   clear hH
   obtain ⟨z0,z1,z2,y0,y1,y2⟩:=spot_ret HX5.out.2.1
   go_simp
   clear z0 z1 z2 y0 y1 y2
   refine hK.out _ _ ?_ (fun _=>?_)
   ·exact fun h=>by cases h
   clear hK K
   try simp only [Act.put,List.setIfInBounds_toArray,List.set_cons_zero,List.set_cons_succ]
   refine Late.Goes.one (i:=10) (by kernel_rfl) (by simp only [List.getElem?_toArray,List.getElem?_cons_succ,List.getElem?_cons_zero];rfl) (fun K hK=>?_)
   clear hH
   go_simp
   refine hK.out _ _ ?_ (fun _=>?_)
   ·exact fun h=>by cases h
   clear hK K
   try simp only [Act.put,List.setIfInBounds_toArray,List.set_cons_zero,List.set_cons_succ]
   refine Late.Goes.done (by kernel_rfl) ?_ _
   go_wp2_with fail
   refine bodyPost_ret (Rec.results_row_tmp rfl _ _ b4 47 #[.int .i64 (i1:Int),.int .i64 (at_:Int),.int .i64 (len:Int)] (0,0) _ rfl (((HX5.out.2.1.set_ 0 (.int .i64 (i1:Int))).set_ 1 (.int .i64 (at_:Int))).set_ 2 (.int .i64 (len:Int))) Tryz.underlying47 rfl spot_size) rfl ?_
   have hbs:=but_set3 w5 b4 (.int .i64 (i1:Int)) (.int .i64 (at_:Int)) (.int .i64 (len:Int))
   exact ⟨F1,g1,c1,vz1,HK5.out.new hbs (fun k hk=>by rw [show k=b4 from hk];have:=HBB.out.2;omega),.inl ⟨HS.out.1,rfl,HS5.out.but_ hbs (fun k hk e=>HB4.out k hk e)⟩⟩
  ·have hv:=errV_bad hr0
   rw [hv]
   have HV:=Lib.hid (And.intro hr0 hv)
   have HS:=Lib.hid hS
   clear hr0 hS hv
   obtain ⟨z0,z1,z2,y0,y1,y2⟩:=spot_ret HX3.out.2.1
   go_wp2_with fail
   refine bodyPost_ret (Rec.results_row_tmp rfl _ _ b4 47 #[.int .i64 0,.int .i64 0,.int .i64 0] (0,0) _ rfl (((HX3.out.2.1.set_ 0 (.int .i64 0)).set_ 1 (.int .i64 0)).set_ 2 (.int .i64 0)) Tryz.underlying47 rfl spot_size) rfl ?_
   have hbs:=but_set3 w3 b4 (.int .i64 0) (.int .i64 0) (.int .i64 0)
   exact ⟨F1,g1,c1,vz1,HKT.out.new hbs (fun k hk=>by rw [show k=b4 from hk];have:=HBB.out.2;omega),.inr ⟨HV.out.1,by rw [HV.out.2];rfl,nums2,base2,begun2,zs2,HS.out.but_ hbs (fun k hk e=>HB4.out k hk e)⟩⟩
 ·exact absurd HK.out hno
end
end Go.Proofs.YtbhoknnjilidnaaGreatDoor.Seg
end

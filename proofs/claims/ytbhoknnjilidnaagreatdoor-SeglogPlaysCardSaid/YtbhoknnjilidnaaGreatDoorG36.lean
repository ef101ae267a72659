/- Contract: a frame is put into a log. (Made by gen-log.py.) -/
import Derived.Test.YtbhoknnjilidnaaGreatDoorG35
set_option linter.unusedSimpArgs false
set_option linter.unusedVariables false
set_option maxHeartbeats 16000000
set_option maxRecDepth 100000
namespace Go.Proofs.YtbhoknnjilidnaaGreatDoor.Seg
open Go.Proofs.YtbhoknnjilidnaaGreatDoor.Mem
open Go.Proofs.YtbhoknnjilidnaaGreatDoor.Disk (Nm File St Eff Has grow errV used lenOf run)
open Go.ChangeShapes Go.WideShapes Go.ChangeAt Go.RowKit
section
variable {w w1 w2 W W':World} {p lb g g1 g2 c:Nat} {S S1 S2:St} {F F1 F2:Nat→Prop} {limit:Int} {nums:List Nat} {base:Nat} {begun:Bool} {zs:List Nat} {vz vz1 vz2:Value}
structure KeptG (w w':World) (lb g:Nat) (F F1:Nat→Prop) (vz:Value) (g1:Nat) (vz1:Value):Prop where
 sub:∀ j,F1 j→grow F w w' j
 but:But (fun j=>F j∨j=lb∨vz.ownBlock=some j) w w'
 own:∀ j,vz1.ownBlock=some j→vz.ownBlock=some j∨w.heap.size≤j
 gs:g1=g∨w.heap.size≤g1
theorem KeptG.of (h:Kept w w1 lb F F1 vz vz1):KeptG w w1 lb g F F1 vz g vz1:=⟨h.sub,h.but,h.own,.inl rfl⟩
theorem KeptG.trans (h:KeptG w W lb g F F1 vz g1 vz1) (k:KeptG W W' lb g1 F1 F2 vz1 g2 vz2):KeptG w W' lb g F F2 vz g2 vz2:=by
 have s1:=h.but.size
 have s2:=k.but.size
 refine ⟨fun j hj=>?_,h.but.trans k.but (fun i hi hF=>?_),fun j hj=>?_,?_⟩
 ·rcases k.sub j hj with h1|h1
  ·rcases h.sub j h1 with h2|h2
   ·exact .inl h2
   ·exact .inr ⟨h2.1,by omega⟩
  ·exact .inr ⟨by omega,h1.2⟩
 ·rcases hF with hF|hF|hF
  ·rcases h.sub i hF with h2|h2
   ·exact .inl h2
   ·omega
  ·exact .inr (.inl hF)
  ·rcases h.own i hF with h2|h2
   ·exact .inr (.inr h2)
   ·omega
 ·rcases k.own j hj with h1|h1
  ·exact h.own j h1
  ·exact .inr (by omega)
 ·rcases k.gs with h1|h1
  ·rw [h1];exact h.gs
  ·exact .inr (by omega)
theorem KeptG.below (hlt:∀ k,F k→k < w.heap.size) (hb:Below w.heap.size w w1):KeptG w w1 lb g F F vz g vz := .of (Kept.refl hb hlt)
theorem KeptG.disk (hN:Next w p F S w1):KeptG w w1 lb g F (grow F w w1) vz g vz:=⟨fun j hj=>hj,hN.2.mono (fun i _ h => .inl h),fun j hj => .inl hj,.inl rfl⟩
theorem KeptG.store {T:Nat→Prop} (hb:But T w w1) (hT:∀ k,T k→k=lb∨vz.ownBlock=some k):KeptG w w1 lb g F F vz g vz:=⟨fun j hj => .inl hj,hb.mono (fun i _ h => .inr (hT i h)),fun j hj => .inl hj,.inl rfl⟩
def DoneAfter (w:World) (p lb g:Nat) (F:Nat→Prop) (limit:Int) (vz:Value) (r:Int × St) (nums1:List Nat) (base1:Nat) (begun1:Bool) (zs1:List Nat) (e:Ending) (w':World):Prop :=
 ∃ F1 g1 c1 vz1,KeptG w w' lb g F F1 vz g1 vz1∧((r.1=0∧e = .returned .nilIface∧SysAt w' p lb r.2 limit nums1 base1 begun1 zs1 false F1 g1 c1 vz1)∨(r.1≠0∧e = .returned (errV r.1)∧∃ nums2 base2 begun2 zs2,SysAt w' p lb r.2 limit nums2 base2 begun2 zs2 false F1 g1 c1 vz1))
theorem last_cell {zs:List Nat} {gz nz cz:Nat} (h:w.ownsRow 0 3 1 (.slice (some ⟨gz,0,none⟩) nz cz) zs.length (intCells zs)) (h0:0 < zs.length):w.cell? ⟨gz,zs.length - 1,none⟩=some (.int .i64 ((zs[zs.length - 1]'(by omega):Nat):Int)):=by
 have h1:nz=zs.length:=by
  rcases h.2 with ⟨h2,_⟩|⟨_,_,_,h2,_⟩
  ·cases h2
  ·injection h2
 subst h1
 have:=h.cellAt (zs.length - 1) (by omega)
 rw [this,intCells_get (by omega)]
theorem intCells_set (zs:List Nat) (k n:Nat):(intCells zs).set k (.int .i64 (n:Int))=intCells (zs.set k n):=by
 unfold intCells ints
 rw [List.map_set,List.map_set];rfl
theorem own_blk {zs:List Nat} {gz nz cz:Nat} (h:w.ownsRow 0 3 1 (.slice (some ⟨gz,0,none⟩) nz cz) zs.length (intCells zs)):∃ cs,Disk.Blk w gz 3 cs:=by
 rcases h.2 with ⟨h2,_⟩|⟨g,cap,cur,h2,_,h3,_⟩
 ·cases h2
 ·injection h2 with h2
  injection h2 with h2
  injection h2 with h2
  exact ⟨cur,h2 ▸ h3⟩
theorem own_slice0 {zs:List Nat} {vz:Value} (h:w.ownsRow 0 3 1 vz zs.length (intCells zs)) (h0:0 < zs.length):∃ gz cz,vz = .slice (some ⟨gz,0,none⟩) zs.length cz:=by
 rcases h.2 with ⟨_,h2⟩|⟨gz,cz,_,h2,_⟩
 ·omega
 ·exact ⟨gz,cz,h2⟩
theorem put_log (h:SysAt w p lb S limit nums base begun zs false F g c vz) {a:Option Addr} {len cap:Nat} {fs:List Int} (hr:Row w a len fs) (hnil:a=none→cap=0) (hna:∀ q,a=some q→0 < len→¬ foot lb g vz F q.block) (hl:len≤900000) {i:Nat} (hi:nums.getLast?=some i) (hi1:i+1 < 100) (hnl:nums.length≤900) (hi2:∀ j ∈ nums,j < 4294967296) (hb:base < 4294967296) (hT:Disk.look nT S.files=none) (hz0:0 < zs.length) (hz1:zs.length≤900) (hzs:∀ z ∈ zs,z≤2000000000) :
  Calls Tryz.prog 38 #[.pointer (some ⟨lb,0,none⟩),.slice a len cap] w (DoneAfter w p lb g F limit vz
   (if 0 < zs[zs.length - 1]'(by omega)∧limit < ((zs[zs.length - 1]'(by omega)+len:Nat):Int) then run (rotA (i+1) (manFile (nums++[i+1]) base begun)++apA (i+1) fs) S else run (apA i fs) S)
   (if 0 < zs[zs.length - 1]'(by omega)∧limit < ((zs[zs.length - 1]'(by omega)+len:Nat):Int) then nums++[i+1] else nums) base begun
   (if 0 < zs[zs.length - 1]'(by omega)∧limit < ((zs[zs.length - 1]'(by omega)+len:Nat):Int) then zs++[len] else zs.set (zs.length - 1) (zs[zs.length - 1]'(by omega)+len))):=by
 obtain ⟨gz0,cz0,hvz0⟩:=own_slice0 h.siz hz0
 have hlc0:=last_cell (hvz0 ▸ h.siz) hz0
 obtain ⟨z0,hz⟩:∃ z0,z0=zs[zs.length - 1]'(by omega):=⟨_,rfl⟩
 rw [← hz] at hlc0 ⊢
 have hzb:z0≤2000000000:=by rw [hz];exact hzs _ (List.getElem_mem _)
 have H0:=Lib.hid h
 have HR0:=Lib.hid (And.intro hr (And.intro hna (And.intro hnil hl)))
 have HI:=Lib.hid (And.intro hi (And.intro hi2 (And.intro hT (And.intro hzs hz))))
 have HV0:=Lib.hid hvz0
 have hgz:=(hvz0 ▸ h.siz:w.ownsRow 0 3 1 (.slice (some ⟨gz0,0,none⟩) zs.length cz0) zs.length (intCells zs)).lt gz0 rfl
 have ew0:IntKind.i64.wrap ((z0:Int)+(len:Int))=(z0:Int)+(len:Int):=by rw [IntKind.wrap_i64];omega
 have ew1:IntKind.i64.wrap ((zs.length:Int) - 1)=((zs.length - 1:Nat):Int):=by rw [IntKind.wrap_i64];omega
 have hidx:zs.length - 1 < zs.length:=by omega
 obtain ⟨R,hR⟩:∃ R,R=if 0 < z0∧limit < ((z0+len:Nat):Int) then run (rotA (i+1) (manFile (nums++[i+1]) base begun)++apA (i+1) fs) S else run (apA i fs) S:=⟨_,rfl⟩
 obtain ⟨N1,hN1⟩:∃ N1,N1=if 0 < z0∧limit < ((z0+len:Nat):Int) then nums++[i+1] else nums:=⟨_,rfl⟩
 obtain ⟨Z1,hZ1⟩:∃ Z1,Z1=if 0 < z0∧limit < ((z0+len:Nat):Int) then zs++[len] else zs.set (zs.length - 1) (z0+len):=⟨_,rfl⟩
 rw [← hR,← hN1,← hZ1]
 have HRN:=Lib.hid (And.intro hR (And.intro hN1 hZ1))
 clear h hr hna hnil hl hi hi2 hT hzs hz hvz0 hR hN1 hZ1
 go_enter Tryz.func38,Tryz.ntmps38
 go_wp2_with fail
 refine Late.region_goes (fun V=>V.cell? ⟨lb,5,none⟩=some (.slice (some ⟨gz0,0,none⟩) zs.length cz0)∧V.cell? ⟨gz0,zs.length - 1,none⟩=some (.int .i64 (z0:Int))) (fun _=>false) (by kernel_rfl) ?_ (fun hH=>?_)
 ·exact ⟨by rw [← HV0.out];exact (H0.out.below ((Below.refl _ w).drew)).log.cell 5,((Below.refl w.heap.size w).drew.cell (p:=⟨gz0,zs.length - 1,none⟩) hgz.2).trans hlc0⟩
 refine Late.tk 0 ?_ ?_ hH ?_;rotate_left 2
 refine Late.tk 1 ?_ ?_ hH ?_;rotate_left 2
 refine Late.tk 2 ?_ ?_ hH ?_;rotate_left 2
 refine Late.tk 3 ?_ ?_ hH ?_;rotate_left 2
 refine Late.tk 4 ?_ ?_ hH ?_;rotate_left 2
 refine Late.tk 5 ?_ ?_ hH ?_;rotate_left 2
 refine Late.tk 6 ?_ ?_ hH ?_;rotate_left 2
 refine Late.tk 7 ?_ ?_ hH ?_;rotate_left 2
 refine Late.tk 8 ?_ ?_ hH ?_;rotate_left 2
 refine Late.tk 9 ?_ ?_ hH ?_;rotate_left 2
 refine Late.tk 10 ?_ ?_ hH ?_;rotate_left 2
 refine Late.tk 11 ?_ ?_ hH ?_;rotate_left 2
 refine Late.tk 12 ?_ ?_ hH ?_;rotate_left 2
 rotate_left
 any_goals (intro wy hSw;(try dsimp only at hSw);have k5:=hSw.1;have kz:=hSw.2;go_simp;try (with_reducible rfl))
 try simp only [Act.put,List.setIfInBounds_toArray,List.set_cons_zero,List.set_cons_succ]
 refine Late.Goes.done (by kernel_rfl) ?_ _
 have HS:=Lib.hid (H0.out.below ((Below.refl _ w).drew))
 have HRW:=Lib.hid (HR0.out.1.below ((Below.refl _ w).drew))
 have HBD:=Lib.hid ((Below.refl w.heap.size w).drew)
 obtain ⟨W,hW⟩:∃ W,W=w.drew:=⟨_,rfl⟩
 rw [← hW] at HS HRW HBD ⊢
 clear hW hlc0
 have kl:W.cell? ⟨lb,1,none⟩=some (.int .i64 limit):=HS.out.log.cell 1
 by_cases hrot:0 < z0∧limit < ((z0+len:Nat):Int)
 ·have HRO:=Lib.hid (show R=run (rotA (i+1) (manFile (nums++[i+1]) base begun)++apA (i+1) fs) S∧N1=nums++[i+1]∧Z1=zs++[len] from ⟨by rw [HRN.out.1,if_pos hrot],by rw [HRN.out.2.1,if_pos hrot],by rw [HRN.out.2.2,if_pos hrot]⟩)
  have hz00:0 < z0:=hrot.1
  have tl:limit < (z0:Int)+(len:Int):=by have:=hrot.2;omega
  have k2:W.cell? ⟨lb,2,none⟩=some (.slice (some ⟨g,0,none⟩) nums.length c):=HS.out.log.cell 2
  have k3:W.cell? ⟨lb,3,none⟩=some (.int .i64 (base:Int)):=HS.out.log.cell 3
  have k4:W.cell? ⟨lb,4,none⟩=some (.bool begun):=HS.out.log.cell 4
  have cN:=withNext_any HS.out.nms HI.out.1 (by omega) (by omega) base begun
  unfold manV at cN
  clear hrot
  go_wp2_with fail
  refine cN.mono ?_
  rintro e W1 ⟨v1,rfl,ho1,hb1⟩
  have hnn:(nums++[i+1]).length=nums.length+1:=by simp
  rw [← hnn] at ho1
  obtain ⟨g',c',rfl,-,hg',hgl',hgc',hgm',hcell'⟩:=nms_of_own ho1 (by omega) (by omega)
  have hm1:Nms W1 g' 0 c' (nums++[i+1]):=⟨hgl',hgc',hgm',hcell'⟩
  have hs1:=HS.out.below hb1
  have hlast1:(nums++[i+1]).getLast?=some (i+1):=by simp
  have hi32:∀ j ∈ nums++[i+1],j < 4294967296:=fun j hj=>by
   rcases List.mem_append.1 hj with h1|h1
   ·exact HI.out.2.1 j h1
   ·rw [List.mem_singleton.1 h1];omega
  have hnew:∀ k,foot lb g vz F k→k≠g':=fun k hk e=>by
   have h1:k < W.heap.size:=by
    rcases hk with hk|hk|hk|hk
    ·exact HS.out.dsk.lt k hk
    ·rw [hk];exact HS.out.log.lt
    ·rw [hk];exact HS.out.nms.lt
    ·exact (HS.out.siz.lt k hk).2
   omega
  have cG:=grow_log (begun':=begun) hs1 hm1 (fun hF=>hnew _ (.inl hF) rfl) (fun e=>hnew _ (.inr (.inl rfl)) e.symm) (fun e=>hnew _ (.inr (.inr (.inr e))) rfl) hlast1 hi1 (by omega) hi32 hb HI.out.2.2.1 (by omega)
  obtain ⟨rq,hrq⟩:∃ rq,rq=run (rotA (i+1) (manFile (nums++[i+1]) base begun)) S:=⟨_,rfl⟩
  rw [← hrq] at cG
  unfold manV at cG
  have HRG:=Lib.hid (And.intro hrq (And.intro hlast1 (And.intro hi32 hnn)))
  have HRW1:=Lib.hid (HRW.out.below hb1)
  have HKP1:=Lib.hid ((KeptG.below (g:=g) (lb:=lb) (vz:=vz) H0.out.dsk.lt HBD.out).trans (KeptG.below (g:=g) (lb:=lb) (vz:=vz) HS.out.dsk.lt hb1))
  have HGN:=Lib.hid (And.intro hg' hnew)
  have HBW:=Lib.hid (And.intro hb1.size (show ∀ q,a=some q→0 < len→q.block < W1.heap.size from fun q hq h0=>by
   obtain ⟨bq,oq,hqe,hql,_⟩:=HRW.out.2.2 h0
   rw [hqe] at hq
   injection hq with hq
   rw [← hq]
   exact Nat.lt_of_lt_of_le hql hb1.size))
  rw [hnn] at cG
  clear cN ho1 hb1 hcell' hm1 hs1 hrq hlast1 hi32 hnew k2 k3 k4 hnn
  go_wp2_with fail
  refine cG.mono ?_
  rintro e W2 ⟨F1,vz',hK,⟨hr0,rfl,hS2⟩|⟨hr0,rfl,hS2⟩⟩
  ·obtain ⟨NX,hNX⟩:∃ NX,NX=nums++[i+1]:=⟨_,rfl⟩
   obtain ⟨ZX,hZX⟩:∃ ZX,ZX=zs++[0]:=⟨_,rfl⟩
   obtain ⟨iX,hiX⟩:∃ iX,iX=i+1:=⟨_,rfl⟩
   obtain ⟨SX,hSX⟩:∃ SX,SX=rq.2:=⟨_,rfl⟩
   rw [← hNX,← hZX,← hSX] at hS2
   have hZl:ZX.length=zs.length+1:=by rw [hZX];simp
   have hZ0:0 < ZX.length:=by omega
   have hRO:R=run (apA iX fs) SX∧N1=NX∧∀ z,z=ZX[ZX.length - 1]'(Nat.sub_lt hZ0 Nat.one_pos)→Z1=ZX.set (ZX.length - 1) (z+len):=by
    refine ⟨?_,by rw [HRO.out.2.1,hNX],fun z hz=>?_⟩
    ·rw [HRO.out.1,run_app_ok (by rw [← HRG.out.1];exact hr0),← HRG.out.1,hiX,hSX]
    ·have e1:ZX.length - 1=zs.length:=by omega
     have hz':z=0:=by
      rw [hz]
      subst hZX
      simp
     rw [HRO.out.2.2,hz',e1,hZX,Nat.zero_add]
     simp
   have HRX:=Lib.hid hRO
   have hlX:NX.getLast?=some iX:=by rw [hNX,hiX];exact HRG.out.2.1
   have HLX:=Lib.hid hlX
   have HSX:=Lib.hid hS2
   have HZM:=Lib.hid (show ∀ z ∈ ZX,z≤2000000000 from fun z hz=>by
    rw [hZX] at hz
    rcases List.mem_append.1 hz with h1|h1
    ·exact HI.out.2.2.2.1 z h1
    ·rw [List.mem_singleton.1 h1];omega)
   have HRX2:=Lib.hid (HRW1.out.but hK.but (fun q hq h0 hF=>by
    refine HR0.out.2.1 q hq h0 ?_
    rcases hF with hF|hF|hF
    ·exact .inl hF
    ·exact .inr (.inl hF)
    ·exact .inr (.inr (.inr hF))))
   have HFF:=Lib.hid (show ∀ q,a=some q→0 < len→¬ F1 q.block from fun q hq h0 hF=>by
    rcases hK.sub _ hF with h1|h1
    ·exact HR0.out.2.1 q hq h0 (.inl h1)
    ·have:=HBW.out.2 q hq h0;omega)
   have hkg:=HKP1.out.trans (KeptG.of (g:=g) hK)
   have HKX:=Lib.hid (show KeptG w W2 lb g F F1 vz g' vz' from ⟨hkg.sub,hkg.but,hkg.own,.inr (by have:=HGN.out.1;have:=HBD.out.size;omega)⟩)
   have hnX:NX.length≤1000:=by rw [hNX,HRG.out.2.2.2];omega
   have hiX1:iX < 100:=by omega
   have hZ1:ZX.length≤1000:=by omega
   clear cG hK hr0 hS2 hNX hZX hSX hRO hlX hkg hiX hZl
   go_wp2_with fail
   have hz1:=HSX.out.siz
   obtain ⟨gz,cz,hvz⟩:=own_slice0 hz1 (by omega)
   have HVZ:=Lib.hid hvz
   rw [hvz] at hz1
   have hlc:=last_cell hz1 (by omega)
   have hlz:gz < W2.heap.size:=(hz1.lt gz rfl).2
   clear hz1 hvz
   refine Late.region_goes (fun V=>Disk.Blk V lb 72 (logC p limit g' NX.length c' base begun vz' false)) (fun _=>false) (by kernel_rfl) ?_ (fun hH=>?_)
   ·exact (HSX.out.below ((Below.refl _ W2).drew)).log
   refine Late.tk 0 ?_ ?_ hH ?_;rotate_left 2
   refine Late.tk 1 ?_ ?_ hH ?_;rotate_left 2
   refine Late.tk 2 ?_ ?_ hH ?_;rotate_left 2
   refine Late.tk 3 ?_ ?_ hH ?_;rotate_left 2
   refine Late.tk 4 ?_ ?_ hH ?_;rotate_left 2
   refine Late.tk 5 ?_ ?_ hH ?_;rotate_left 2
   refine Late.tk 6 ?_ ?_ hH ?_;rotate_left 2
   refine Late.tk 7 ?_ ?_ hH ?_;rotate_left 2
   refine Late.tk 10 ?_ ?_ hH ?_;rotate_left 2
   rotate_left
   any_goals (intro wy hSw;(try dsimp only at hSw);have k0:wy.cell? ⟨lb,0,none⟩=some (.pointer (some ⟨p,0,none⟩)):=hSw.cell 0;have k2:wy.cell? ⟨lb,2,none⟩=some (.slice (some ⟨g',0,none⟩) NX.length c'):=hSw.cell 2;have k3:wy.cell? ⟨lb,3,none⟩=some (.int .i64 (base:Int)):=hSw.cell 3;have k4:wy.cell? ⟨lb,4,none⟩=some (.bool begun):=hSw.cell 4;go_simp;try (with_reducible rfl))
   try simp only [Act.put,List.setIfInBounds_toArray,List.set_cons_zero,List.set_cons_succ]
   refine Late.Goes.one (i:=8) (by kernel_rfl) (by simp only [List.getElem?_toArray,List.getElem?_cons_succ,List.getElem?_cons_zero];rfl) (fun K hK=>?_)
   clear hH
   go_simp
   go_at_call 30
   have c8:=last_any (HSX.out.below ((Below.refl _ W2).drew)).nms HLX.out base begun
   unfold manV at c8
   refine c8.mono ?_
   rintro e v1 ⟨rfl,hb1⟩
   have hb1:=((Below.refl _ W2).drew).trans hb1
   have HS1:=Lib.hid (HSX.out.below hb1)
   have HBV1:=Lib.hid hb1
   clear c8 hb1
   refine hK.out _ _ ?_ (fun hH=>?_)
   ·exact fun _=>HS1.out.log
   clear hK K
   have hH:=hH rfl
   try simp only [Act.put,List.setIfInBounds_toArray,List.set_cons_zero,List.set_cons_succ]
   refine Late.Goes.one (i:=9) (by kernel_rfl) (by simp only [List.getElem?_toArray,List.getElem?_cons_succ,List.getElem?_cons_zero];rfl) (fun K hK=>?_)
   clear hH
   go_simp
   go_at_call 44
   refine (segmentFile_any (w:=v1) iX (by omega) (.inl (by omega))).mono ?_
   rintro e v2 ⟨rfl,hb2⟩
   have HS2:=Lib.hid (HS1.out.below hb2)
   have HBV2:=Lib.hid (HBV1.out.trans (hb2.mono HBV1.out.size))
   clear hb2
   refine hK.out _ _ ?_ (fun hH=>?_)
   ·exact fun _=>HS2.out.log
   clear hK K
   have hH:=hH rfl
   try simp only [Act.put,List.setIfInBounds_toArray,List.set_cons_zero,List.set_cons_succ]
   have c9:=appendSynced_any HS2.out.dsk (segB iX) (segB_size iX (by omega)) a len cap fs (HRX2.out.below HBV2.out) HR0.out.2.2.1 (fun q hq h0=>HFF.out q hq h0) HR0.out.2.2.2
   rw [segB_nm] at c9
   obtain ⟨rq,hrq⟩:∃ rq,rq=run [.add (seg iX) fs,.syn (seg iX)] SX:=⟨_,rfl⟩
   rw [← hrq] at c9
   have HRQ9:=Lib.hid (show run (apA iX fs) SX=rq from hrq.symm)
   clear hrq
   by_cases e9:rq.1=0
   ·have HE9:=Lib.hid e9
    unfold After at c9
    rw [errV_ok e9] at c9
    clear e9
    refine Late.Goes.one (i:=11) (by kernel_rfl) (by simp only [List.getElem?_toArray,List.getElem?_cons_succ,List.getElem?_cons_zero];rfl) (fun K hK=>?_)
    clear hH
    go_simp
    go_at_call 67
    refine c9.mono ?_
    rintro e v3 ⟨rfl,hN3⟩
    have HS3:=Lib.hid (HS2.out.disk hN3)
    have HK3:=Lib.hid ((KeptG.below (g:=g') (lb:=lb) (vz:=vz') HSX.out.dsk.lt HBV2.out).trans (KeptG.disk hN3))
    obtain ⟨F3,hF3⟩:∃ F3,F3=grow F1 v2 v3:=⟨_,rfl⟩
    rw [← hF3] at HS3 HK3
    clear c9 hN3 hF3
    refine hK.out _ _ ?_ (fun hH=>?_)
    ·exact fun _=>HS3.out.log
    clear hK K
    have hH:=hH rfl
    try simp only [Act.put,List.setIfInBounds_toArray,List.set_cons_zero,List.set_cons_succ]
    refine Late.tk 12 ?_ ?_ hH ?_;rotate_left 2
    rotate_left
    any_goals (intro wy hSw;(try dsimp only at hSw);have k0:wy.cell? ⟨lb,0,none⟩=some (.pointer (some ⟨p,0,none⟩)):=hSw.cell 0;have k2:wy.cell? ⟨lb,2,none⟩=some (.slice (some ⟨g',0,none⟩) NX.length c'):=hSw.cell 2;have k3:wy.cell? ⟨lb,3,none⟩=some (.int .i64 (base:Int)):=hSw.cell 3;have k4:wy.cell? ⟨lb,4,none⟩=some (.bool begun):=hSw.cell 4;go_simp;try (with_reducible rfl))
    try simp only [Act.put,List.setIfInBounds_toArray,List.set_cons_zero,List.set_cons_succ]
    refine Late.Goes.done (by kernel_rfl) ?_ _
    go_wp2_with fail
    have hz3:=HS3.out.siz
    rw [HVZ.out] at hz3
    have hlc3:=last_cell hz3 (by omega)
    obtain ⟨z,hz⟩:∃ z,z=ZX[ZX.length - 1]'(by omega):=⟨_,rfl⟩
    rw [← hz] at hlc3
    have HZ:=Lib.hid hz
    have hsm:z≤2000000000:=by rw [hz];exact HZM.out _ (List.getElem_mem _)
    have ew:IntKind.i64.wrap ((z:Int)+(len:Int))=(z:Int)+(len:Int):=by rw [IntKind.wrap_i64];have:=HR0.out.2.2.2;omega
    have ew1:IntKind.i64.wrap ((ZX.length:Int) - 1)=((ZX.length - 1:Nat):Int):=by rw [IntKind.wrap_i64];omega
    have HZ3:=Lib.hid hz3
    have HLC3:=Lib.hid hlc3
    clear hz hz3
    have hidx:ZX.length - 1 < ZX.length:=by omega
    refine Late.region_goes (fun V=>V.cell? ⟨lb,5,none⟩=some (.slice (some ⟨gz,0,none⟩) ZX.length cz)∧V.cell? ⟨gz,ZX.length - 1,none⟩=some (.int .i64 (z:Int))) (fun j=>j == 16) (by kernel_rfl) ?_ (fun hH=>?_)
    ·exact ⟨by rw [← HVZ.out];exact (HS3.out.below ((Below.refl _ v3).drew)).log.cell 5,((Below.refl v3.heap.size v3).drew.cell (p:=⟨gz,ZX.length - 1,none⟩) (HZ3.out.lt gz rfl).2).trans hlc3⟩
    refine Late.tk 0 ?_ ?_ hH ?_;rotate_left 2
    refine Late.tk 1 ?_ ?_ hH ?_;rotate_left 2
    refine Late.tk 2 ?_ ?_ hH ?_;rotate_left 2
    refine Late.tk 3 ?_ ?_ hH ?_;rotate_left 2
    refine Late.tk 4 ?_ ?_ hH ?_;rotate_left 2
    refine Late.tk 5 ?_ ?_ hH ?_;rotate_left 2
    refine Late.tk 6 ?_ ?_ hH ?_;rotate_left 2
    refine Late.tk 7 ?_ ?_ hH ?_;rotate_left 2
    refine Late.tk 8 ?_ ?_ hH ?_;rotate_left 2
    refine Late.tk 9 ?_ ?_ hH ?_;rotate_left 2
    refine Late.tk 10 ?_ ?_ hH ?_;rotate_left 2
    refine Late.tk 11 ?_ ?_ hH ?_;rotate_left 2
    refine Late.tk 12 ?_ ?_ hH ?_;rotate_left 2
    refine Late.tk 13 ?_ ?_ hH ?_;rotate_left 2
    refine Late.tk 14 ?_ ?_ hH ?_;rotate_left 2
    refine Late.tk 15 ?_ ?_ hH ?_;rotate_left 2
    rotate_left
    any_goals (intro wy hSw;(try dsimp only at hSw);have k5:=hSw.1;have kz:=hSw.2;go_simp;try (with_reducible rfl))
    try simp only [Act.put,List.setIfInBounds_toArray,List.set_cons_zero,List.set_cons_succ]
    have HS4:=Lib.hid (HS3.out.below ((Below.refl _ v3).drew))
    have hz4:=HS4.out.siz
    rw [HVZ.out] at hz4
    obtain ⟨cs4,hcs4⟩:=own_blk hz4
    have yz:v3.drew.frozen? ⟨gz,ZX.length - 1,none⟩=false:=hcs4.frozen _
    have kz4:v3.drew.cell? ⟨gz,ZX.length - 1,none⟩=some (.int .i64 (z:Int)):=((Below.refl v3.heap.size v3).drew.cell (p:=⟨gz,ZX.length - 1,none⟩) (HZ3.out.lt gz rfl).2).trans hlc3
    have HZ4:=Lib.hid hz4
    clear hz4 hcs4 hlc3
    refine Late.Goes.one (i:=16) (by kernel_rfl) (by simp only [List.getElem?_toArray,List.getElem?_cons_succ,List.getElem?_cons_zero];rfl) (fun K hK=>?_)
    clear hH
    go_simp
    clear yz kz4
    refine hK.out _ _ ?_ (fun _=>?_)
    ·exact fun h=>by cases h
    clear hK K
    try simp only [Act.put,List.setIfInBounds_toArray,List.set_cons_zero,List.set_cons_succ]
    refine Late.Goes.done (by kernel_rfl) ?_ _
    go_wp2_with fail
    go_ret
    have hz5:=(HZ4.out.stored (ZX.length - 1) (.int .i64 ((z:Int)+(len:Int)))).1
    have hbs:=Disk.but_set v3.drew gz (ZX.length - 1) (.int .i64 ((z:Int)+(len:Int)))
    have hs4:=HS4.out
    have hgzo:(vz').ownBlock=some gz:=by rw [HVZ.out];rfl
    have hfz:=hs4.fz gz hgzo
    have hgl:gz≠lb:=fun e=>by
     obtain ⟨cs5,h5⟩:=own_blk HZ4.out
     exact (h5.ne_ hs4.log (by decide)) e
    have e5:(intCells ZX).set (ZX.length - 1) (.int .i64 ((z:Int)+(len:Int)))=intCells (ZX.set (ZX.length - 1) (z+len)):=intCells_set ZX (ZX.length - 1) (z+len)
    rw [e5] at hz5
    obtain ⟨q1,q2,q3⟩:=HRX.out
    refine ⟨F3,g',c',vz',((HKX.out).trans HK3.out).trans ((KeptG.below (g:=g') (lb:=lb) (vz:=vz') HS3.out.dsk.lt ((Below.refl _ v3).drew)).trans (KeptG.store hbs (fun k hk => .inr (by rw [show k=gz from hk];exact hgzo)))),.inl ⟨by rw [q1,HRQ9.out];exact HE9.out,rfl,?_⟩⟩
    rw [q1,HRQ9.out,q2,q3 z HZ.out]
    refine ⟨hs4.dsk.but_ hbs (fun k hk e=>hfz.1 ((show k=gz from e) ▸ hk)),hs4.log.but hbs (fun e=>hgl (show lb=gz from e).symm),hs4.nms.but hbs (fun e=>hfz.2 (show g'=gz from e).symm),?_,hs4.flb,hs4.fg,hs4.fz,hs4.gl⟩
    rw [HVZ.out,List.length_set]
    exact hz5
   ·have hv:=errV_bad e9
    unfold After at c9
    rw [hv] at c9
    have HV:=Lib.hid (And.intro e9 hv)
    clear e9 hv
    refine Late.Goes.one (i:=11) (by kernel_rfl) (by simp only [List.getElem?_toArray,List.getElem?_cons_succ,List.getElem?_cons_zero];rfl) (fun K hK=>?_)
    clear hH
    go_simp
    go_at_call 67
    refine c9.mono ?_
    rintro e v3 ⟨rfl,hN3⟩
    have HS3:=Lib.hid (HS2.out.disk hN3)
    have HK3:=Lib.hid ((KeptG.below (g:=g') (lb:=lb) (vz:=vz') HSX.out.dsk.lt HBV2.out).trans (KeptG.disk hN3))
    clear c9 hN3
    refine hK.out _ _ ?_ (fun hH=>?_)
    ·exact fun _=>HS3.out.log
    clear hK K
    have hH:=hH rfl
    try simp only [Act.put,List.setIfInBounds_toArray,List.set_cons_zero,List.set_cons_succ]
    refine Late.tk 12 ?_ ?_ hH ?_;rotate_left 2
    rotate_left
    any_goals (intro wy hSw;(try dsimp only at hSw);have k0:wy.cell? ⟨lb,0,none⟩=some (.pointer (some ⟨p,0,none⟩)):=hSw.cell 0;go_simp;try (with_reducible rfl))
    try simp only [Act.put,List.setIfInBounds_toArray,List.set_cons_zero,List.set_cons_succ]
    refine Late.Goes.done (by kernel_rfl) ?_ _
    go_wp2_with fail
    go_ret
    obtain ⟨q1,q2,q3⟩:=HRX.out
    refine ⟨_,g',c',vz',(HKX.out).trans HK3.out,.inr ⟨by rw [q1,HRQ9.out];exact HV.out.1,by rw [q1,HRQ9.out,HV.out.2];rfl,NX,base,begun,ZX,?_⟩⟩
    rw [q1,HRQ9.out]
    exact HS3.out
  ·have hv:=errV_bad hr0
   rw [hv]
   have HV:=Lib.hid (And.intro hr0 hv)
   have HK2:=Lib.hid (KeptG.of (g:=g) hK)
   have HS2:=Lib.hid hS2
   clear cG hK hr0 hS2 hv
   go_wp2_with fail
   go_ret
   have hRR:R=rq:=by rw [HRO.out.1,run_app_err (by rw [← HRG.out.1];exact HV.out.1),← HRG.out.1]
   rw [hRR]
   exact ⟨F1,g,c,vz',HKP1.out.trans HK2.out,.inr ⟨HV.out.1,by rw [HV.out.2];rfl,_,_,_,_,HS2.out⟩⟩
 ·have HRO:=Lib.hid (show R=run (apA i fs) S∧N1=nums∧∀ z,z=zs[zs.length - 1]'(by omega)→Z1=zs.set (zs.length - 1) (z+len) from ⟨by rw [HRN.out.1,if_neg hrot],by rw [HRN.out.2.1,if_neg hrot],fun z hz=>by rw [HRN.out.2.2,if_neg hrot,hz,← HI.out.2.2.2.2]⟩)
  have HKP:=Lib.hid (KeptG.below (g:=g) (lb:=lb) (vz:=vz) H0.out.dsk.lt HBD.out)
  by_cases hz00:0 < z0
  ·have tl:decide (limit < (z0:Int)+(len:Int))=false:=decide_eq_false (by omega)
   clear hrot
   go_wp2_with fail
   have hz1:=HS.out.siz
   obtain ⟨gz,cz,hvz⟩:=own_slice0 hz1 (by omega)
   have HVZ:=Lib.hid hvz
   rw [hvz] at hz1
   have hlc:=last_cell hz1 (by omega)
   have hlz:gz < W.heap.size:=(hz1.lt gz rfl).2
   clear hz1 hvz
   refine Late.region_goes (fun V=>Disk.Blk V lb 72 (logC p limit g nums.length c base begun vz false)) (fun _=>false) (by kernel_rfl) ?_ (fun hH=>?_)
   ·exact (HS.out.below ((Below.refl _ W).drew)).log
   refine Late.tk 0 ?_ ?_ hH ?_;rotate_left 2
   refine Late.tk 1 ?_ ?_ hH ?_;rotate_left 2
   refine Late.tk 2 ?_ ?_ hH ?_;rotate_left 2
   refine Late.tk 3 ?_ ?_ hH ?_;rotate_left 2
   refine Late.tk 4 ?_ ?_ hH ?_;rotate_left 2
   refine Late.tk 5 ?_ ?_ hH ?_;rotate_left 2
   refine Late.tk 6 ?_ ?_ hH ?_;rotate_left 2
   refine Late.tk 7 ?_ ?_ hH ?_;rotate_left 2
   refine Late.tk 10 ?_ ?_ hH ?_;rotate_left 2
   rotate_left
   any_goals (intro wy hSw;(try dsimp only at hSw);have k0:wy.cell? ⟨lb,0,none⟩=some (.pointer (some ⟨p,0,none⟩)):=hSw.cell 0;have k2:wy.cell? ⟨lb,2,none⟩=some (.slice (some ⟨g,0,none⟩) nums.length c):=hSw.cell 2;have k3:wy.cell? ⟨lb,3,none⟩=some (.int .i64 (base:Int)):=hSw.cell 3;have k4:wy.cell? ⟨lb,4,none⟩=some (.bool begun):=hSw.cell 4;go_simp;try (with_reducible rfl))
   try simp only [Act.put,List.setIfInBounds_toArray,List.set_cons_zero,List.set_cons_succ]
   refine Late.Goes.one (i:=8) (by kernel_rfl) (by simp only [List.getElem?_toArray,List.getElem?_cons_succ,List.getElem?_cons_zero];rfl) (fun K hK=>?_)
   clear hH
   go_simp
   go_at_call 30
   have c8:=last_any (HS.out.below ((Below.refl _ W).drew)).nms HI.out.1 base begun
   unfold manV at c8
   refine c8.mono ?_
   rintro e v1 ⟨rfl,hb1⟩
   have hb1:=((Below.refl _ W).drew).trans hb1
   have HS1:=Lib.hid (HS.out.below hb1)
   have HBV1:=Lib.hid hb1
   clear c8 hb1
   refine hK.out _ _ ?_ (fun hH=>?_)
   ·exact fun _=>HS1.out.log
   clear hK K
   have hH:=hH rfl
   try simp only [Act.put,List.setIfInBounds_toArray,List.set_cons_zero,List.set_cons_succ]
   refine Late.Goes.one (i:=9) (by kernel_rfl) (by simp only [List.getElem?_toArray,List.getElem?_cons_succ,List.getElem?_cons_zero];rfl) (fun K hK=>?_)
   clear hH
   go_simp
   go_at_call 44
   refine (segmentFile_any (w:=v1) i (by omega) (.inl (by omega))).mono ?_
   rintro e v2 ⟨rfl,hb2⟩
   have HS2:=Lib.hid (HS1.out.below hb2)
   have HBV2:=Lib.hid (HBV1.out.trans (hb2.mono HBV1.out.size))
   clear hb2
   refine hK.out _ _ ?_ (fun hH=>?_)
   ·exact fun _=>HS2.out.log
   clear hK K
   have hH:=hH rfl
   try simp only [Act.put,List.setIfInBounds_toArray,List.set_cons_zero,List.set_cons_succ]
   have c9:=appendSynced_any HS2.out.dsk (segB i) (segB_size i (by omega)) a len cap fs (HRW.out.below HBV2.out) HR0.out.2.2.1 (fun q hq h0=>(fun hF=>HR0.out.2.1 q hq h0 (.inl hF))) HR0.out.2.2.2
   rw [segB_nm] at c9
   obtain ⟨rq,hrq⟩:∃ rq,rq=run [.add (seg i) fs,.syn (seg i)] S:=⟨_,rfl⟩
   rw [← hrq] at c9
   have HRQ9:=Lib.hid (show run (apA i fs) S=rq from hrq.symm)
   clear hrq
   by_cases e9:rq.1=0
   ·have HE9:=Lib.hid e9
    unfold After at c9
    rw [errV_ok e9] at c9
    clear e9
    refine Late.Goes.one (i:=11) (by kernel_rfl) (by simp only [List.getElem?_toArray,List.getElem?_cons_succ,List.getElem?_cons_zero];rfl) (fun K hK=>?_)
    clear hH
    go_simp
    go_at_call 67
    refine c9.mono ?_
    rintro e v3 ⟨rfl,hN3⟩
    have HS3:=Lib.hid (HS2.out.disk hN3)
    have HK3:=Lib.hid ((KeptG.below (g:=g) (lb:=lb) (vz:=vz) HS.out.dsk.lt HBV2.out).trans (KeptG.disk hN3))
    obtain ⟨F3,hF3⟩:∃ F3,F3=grow F v2 v3:=⟨_,rfl⟩
    rw [← hF3] at HS3 HK3
    clear c9 hN3 hF3
    refine hK.out _ _ ?_ (fun hH=>?_)
    ·exact fun _=>HS3.out.log
    clear hK K
    have hH:=hH rfl
    try simp only [Act.put,List.setIfInBounds_toArray,List.set_cons_zero,List.set_cons_succ]
    refine Late.tk 12 ?_ ?_ hH ?_;rotate_left 2
    rotate_left
    any_goals (intro wy hSw;(try dsimp only at hSw);have k0:wy.cell? ⟨lb,0,none⟩=some (.pointer (some ⟨p,0,none⟩)):=hSw.cell 0;have k2:wy.cell? ⟨lb,2,none⟩=some (.slice (some ⟨g,0,none⟩) nums.length c):=hSw.cell 2;have k3:wy.cell? ⟨lb,3,none⟩=some (.int .i64 (base:Int)):=hSw.cell 3;have k4:wy.cell? ⟨lb,4,none⟩=some (.bool begun):=hSw.cell 4;go_simp;try (with_reducible rfl))
    try simp only [Act.put,List.setIfInBounds_toArray,List.set_cons_zero,List.set_cons_succ]
    refine Late.Goes.done (by kernel_rfl) ?_ _
    go_wp2_with fail
    have hz3:=HS3.out.siz
    rw [HVZ.out] at hz3
    have hlc3:=last_cell hz3 (by omega)
    obtain ⟨z,hz⟩:∃ z,z=zs[zs.length - 1]'(by omega):=⟨_,rfl⟩
    rw [← hz] at hlc3
    have HZ:=Lib.hid hz
    have hsm:z≤2000000000:=by rw [hz];exact HI.out.2.2.2.1 _ (List.getElem_mem _)
    have ew:IntKind.i64.wrap ((z:Int)+(len:Int))=(z:Int)+(len:Int):=by rw [IntKind.wrap_i64];have:=HR0.out.2.2.2;omega
    have ew1:IntKind.i64.wrap ((zs.length:Int) - 1)=((zs.length - 1:Nat):Int):=by rw [IntKind.wrap_i64];omega
    have HZ3:=Lib.hid hz3
    have HLC3:=Lib.hid hlc3
    clear hz hz3
    have hidx:zs.length - 1 < zs.length:=by omega
    refine Late.region_goes (fun V=>V.cell? ⟨lb,5,none⟩=some (.slice (some ⟨gz,0,none⟩) zs.length cz)∧V.cell? ⟨gz,zs.length - 1,none⟩=some (.int .i64 (z:Int))) (fun j=>j == 16) (by kernel_rfl) ?_ (fun hH=>?_)
    ·exact ⟨by rw [← HVZ.out];exact (HS3.out.below ((Below.refl _ v3).drew)).log.cell 5,((Below.refl v3.heap.size v3).drew.cell (p:=⟨gz,zs.length - 1,none⟩) (HZ3.out.lt gz rfl).2).trans hlc3⟩
    refine Late.tk 0 ?_ ?_ hH ?_;rotate_left 2
    refine Late.tk 1 ?_ ?_ hH ?_;rotate_left 2
    refine Late.tk 2 ?_ ?_ hH ?_;rotate_left 2
    refine Late.tk 3 ?_ ?_ hH ?_;rotate_left 2
    refine Late.tk 4 ?_ ?_ hH ?_;rotate_left 2
    refine Late.tk 5 ?_ ?_ hH ?_;rotate_left 2
    refine Late.tk 6 ?_ ?_ hH ?_;rotate_left 2
    refine Late.tk 7 ?_ ?_ hH ?_;rotate_left 2
    refine Late.tk 8 ?_ ?_ hH ?_;rotate_left 2
    refine Late.tk 9 ?_ ?_ hH ?_;rotate_left 2
    refine Late.tk 10 ?_ ?_ hH ?_;rotate_left 2
    refine Late.tk 11 ?_ ?_ hH ?_;rotate_left 2
    refine Late.tk 12 ?_ ?_ hH ?_;rotate_left 2
    refine Late.tk 13 ?_ ?_ hH ?_;rotate_left 2
    refine Late.tk 14 ?_ ?_ hH ?_;rotate_left 2
    refine Late.tk 15 ?_ ?_ hH ?_;rotate_left 2
    rotate_left
    any_goals (intro wy hSw;(try dsimp only at hSw);have k5:=hSw.1;have kz:=hSw.2;go_simp;try (with_reducible rfl))
    try simp only [Act.put,List.setIfInBounds_toArray,List.set_cons_zero,List.set_cons_succ]
    have HS4:=Lib.hid (HS3.out.below ((Below.refl _ v3).drew))
    have hz4:=HS4.out.siz
    rw [HVZ.out] at hz4
    obtain ⟨cs4,hcs4⟩:=own_blk hz4
    have yz:v3.drew.frozen? ⟨gz,zs.length - 1,none⟩=false:=hcs4.frozen _
    have kz4:v3.drew.cell? ⟨gz,zs.length - 1,none⟩=some (.int .i64 (z:Int)):=((Below.refl v3.heap.size v3).drew.cell (p:=⟨gz,zs.length - 1,none⟩) (HZ3.out.lt gz rfl).2).trans hlc3
    have HZ4:=Lib.hid hz4
    clear hz4 hcs4 hlc3
    refine Late.Goes.one (i:=16) (by kernel_rfl) (by simp only [List.getElem?_toArray,List.getElem?_cons_succ,List.getElem?_cons_zero];rfl) (fun K hK=>?_)
    clear hH
    go_simp
    clear yz kz4
    refine hK.out _ _ ?_ (fun _=>?_)
    ·exact fun h=>by cases h
    clear hK K
    try simp only [Act.put,List.setIfInBounds_toArray,List.set_cons_zero,List.set_cons_succ]
    refine Late.Goes.done (by kernel_rfl) ?_ _
    go_wp2_with fail
    go_ret
    have hz5:=(HZ4.out.stored (zs.length - 1) (.int .i64 ((z:Int)+(len:Int)))).1
    have hbs:=Disk.but_set v3.drew gz (zs.length - 1) (.int .i64 ((z:Int)+(len:Int)))
    have hs4:=HS4.out
    have hgzo:(vz).ownBlock=some gz:=by rw [HVZ.out];rfl
    have hfz:=hs4.fz gz hgzo
    have hgl:gz≠lb:=fun e=>by
     obtain ⟨cs5,h5⟩:=own_blk HZ4.out
     exact (h5.ne_ hs4.log (by decide)) e
    have e5:(intCells zs).set (zs.length - 1) (.int .i64 ((z:Int)+(len:Int)))=intCells (zs.set (zs.length - 1) (z+len)):=intCells_set zs (zs.length - 1) (z+len)
    rw [e5] at hz5
    obtain ⟨q1,q2,q3⟩:=HRO.out
    refine ⟨F3,g,c,vz,((HKP.out).trans HK3.out).trans ((KeptG.below (g:=g) (lb:=lb) (vz:=vz) HS3.out.dsk.lt ((Below.refl _ v3).drew)).trans (KeptG.store hbs (fun k hk => .inr (by rw [show k=gz from hk];exact hgzo)))),.inl ⟨by rw [q1,HRQ9.out];exact HE9.out,rfl,?_⟩⟩
    rw [q1,HRQ9.out,q2,q3 z HZ.out]
    refine ⟨hs4.dsk.but_ hbs (fun k hk e=>hfz.1 ((show k=gz from e) ▸ hk)),hs4.log.but hbs (fun e=>hgl (show lb=gz from e).symm),hs4.nms.but hbs (fun e=>hfz.2 (show g=gz from e).symm),?_,hs4.flb,hs4.fg,hs4.fz,hs4.gl⟩
    rw [HVZ.out,List.length_set]
    exact hz5
   ·have hv:=errV_bad e9
    unfold After at c9
    rw [hv] at c9
    have HV:=Lib.hid (And.intro e9 hv)
    clear e9 hv
    refine Late.Goes.one (i:=11) (by kernel_rfl) (by simp only [List.getElem?_toArray,List.getElem?_cons_succ,List.getElem?_cons_zero];rfl) (fun K hK=>?_)
    clear hH
    go_simp
    go_at_call 67
    refine c9.mono ?_
    rintro e v3 ⟨rfl,hN3⟩
    have HS3:=Lib.hid (HS2.out.disk hN3)
    have HK3:=Lib.hid ((KeptG.below (g:=g) (lb:=lb) (vz:=vz) HS.out.dsk.lt HBV2.out).trans (KeptG.disk hN3))
    clear c9 hN3
    refine hK.out _ _ ?_ (fun hH=>?_)
    ·exact fun _=>HS3.out.log
    clear hK K
    have hH:=hH rfl
    try simp only [Act.put,List.setIfInBounds_toArray,List.set_cons_zero,List.set_cons_succ]
    refine Late.tk 12 ?_ ?_ hH ?_;rotate_left 2
    rotate_left
    any_goals (intro wy hSw;(try dsimp only at hSw);have k0:wy.cell? ⟨lb,0,none⟩=some (.pointer (some ⟨p,0,none⟩)):=hSw.cell 0;go_simp;try (with_reducible rfl))
    try simp only [Act.put,List.setIfInBounds_toArray,List.set_cons_zero,List.set_cons_succ]
    refine Late.Goes.done (by kernel_rfl) ?_ _
    go_wp2_with fail
    go_ret
    obtain ⟨q1,q2,q3⟩:=HRO.out
    refine ⟨_,g,c,vz,(HKP.out).trans HK3.out,.inr ⟨by rw [q1,HRQ9.out];exact HV.out.1,by rw [q1,HRQ9.out,HV.out.2];rfl,nums,base,begun,zs,?_⟩⟩
    rw [q1,HRQ9.out]
    exact HS3.out
  ·have tz:decide (0 < (z0:Int))=false:=decide_eq_false (by omega)
   clear hrot
   go_wp2_with fail
   have hz1:=HS.out.siz
   obtain ⟨gz,cz,hvz⟩:=own_slice0 hz1 (by omega)
   have HVZ:=Lib.hid hvz
   rw [hvz] at hz1
   have hlc:=last_cell hz1 (by omega)
   have hlz:gz < W.heap.size:=(hz1.lt gz rfl).2
   clear hz1 hvz
   refine Late.region_goes (fun V=>Disk.Blk V lb 72 (logC p limit g nums.length c base begun vz false)) (fun _=>false) (by kernel_rfl) ?_ (fun hH=>?_)
   ·exact (HS.out.below ((Below.refl _ W).drew)).log
   refine Late.tk 0 ?_ ?_ hH ?_;rotate_left 2
   refine Late.tk 1 ?_ ?_ hH ?_;rotate_left 2
   refine Late.tk 2 ?_ ?_ hH ?_;rotate_left 2
   refine Late.tk 3 ?_ ?_ hH ?_;rotate_left 2
   refine Late.tk 4 ?_ ?_ hH ?_;rotate_left 2
   refine Late.tk 5 ?_ ?_ hH ?_;rotate_left 2
   refine Late.tk 6 ?_ ?_ hH ?_;rotate_left 2
   refine Late.tk 7 ?_ ?_ hH ?_;rotate_left 2
   refine Late.tk 10 ?_ ?_ hH ?_;rotate_left 2
   rotate_left
   any_goals (intro wy hSw;(try dsimp only at hSw);have k0:wy.cell? ⟨lb,0,none⟩=some (.pointer (some ⟨p,0,none⟩)):=hSw.cell 0;have k2:wy.cell? ⟨lb,2,none⟩=some (.slice (some ⟨g,0,none⟩) nums.length c):=hSw.cell 2;have k3:wy.cell? ⟨lb,3,none⟩=some (.int .i64 (base:Int)):=hSw.cell 3;have k4:wy.cell? ⟨lb,4,none⟩=some (.bool begun):=hSw.cell 4;go_simp;try (with_reducible rfl))
   try simp only [Act.put,List.setIfInBounds_toArray,List.set_cons_zero,List.set_cons_succ]
   refine Late.Goes.one (i:=8) (by kernel_rfl) (by simp only [List.getElem?_toArray,List.getElem?_cons_succ,List.getElem?_cons_zero];rfl) (fun K hK=>?_)
   clear hH
   go_simp
   go_at_call 30
   have c8:=last_any (HS.out.below ((Below.refl _ W).drew)).nms HI.out.1 base begun
   unfold manV at c8
   refine c8.mono ?_
   rintro e v1 ⟨rfl,hb1⟩
   have hb1:=((Below.refl _ W).drew).trans hb1
   have HS1:=Lib.hid (HS.out.below hb1)
   have HBV1:=Lib.hid hb1
   clear c8 hb1
   refine hK.out _ _ ?_ (fun hH=>?_)
   ·exact fun _=>HS1.out.log
   clear hK K
   have hH:=hH rfl
   try simp only [Act.put,List.setIfInBounds_toArray,List.set_cons_zero,List.set_cons_succ]
   refine Late.Goes.one (i:=9) (by kernel_rfl) (by simp only [List.getElem?_toArray,List.getElem?_cons_succ,List.getElem?_cons_zero];rfl) (fun K hK=>?_)
   clear hH
   go_simp
   go_at_call 44
   refine (segmentFile_any (w:=v1) i (by omega) (.inl (by omega))).mono ?_
   rintro e v2 ⟨rfl,hb2⟩
   have HS2:=Lib.hid (HS1.out.below hb2)
   have HBV2:=Lib.hid (HBV1.out.trans (hb2.mono HBV1.out.size))
   clear hb2
   refine hK.out _ _ ?_ (fun hH=>?_)
   ·exact fun _=>HS2.out.log
   clear hK K
   have hH:=hH rfl
   try simp only [Act.put,List.setIfInBounds_toArray,List.set_cons_zero,List.set_cons_succ]
   have c9:=appendSynced_any HS2.out.dsk (segB i) (segB_size i (by omega)) a len cap fs (HRW.out.below HBV2.out) HR0.out.2.2.1 (fun q hq h0=>(fun hF=>HR0.out.2.1 q hq h0 (.inl hF))) HR0.out.2.2.2
   rw [segB_nm] at c9
   obtain ⟨rq,hrq⟩:∃ rq,rq=run [.add (seg i) fs,.syn (seg i)] S:=⟨_,rfl⟩
   rw [← hrq] at c9
   have HRQ9:=Lib.hid (show run (apA i fs) S=rq from hrq.symm)
   clear hrq
   by_cases e9:rq.1=0
   ·have HE9:=Lib.hid e9
    unfold After at c9
    rw [errV_ok e9] at c9
    clear e9
    refine Late.Goes.one (i:=11) (by kernel_rfl) (by simp only [List.getElem?_toArray,List.getElem?_cons_succ,List.getElem?_cons_zero];rfl) (fun K hK=>?_)
    clear hH
    go_simp
    go_at_call 67
    refine c9.mono ?_
    rintro e v3 ⟨rfl,hN3⟩
    have HS3:=Lib.hid (HS2.out.disk hN3)
    have HK3:=Lib.hid ((KeptG.below (g:=g) (lb:=lb) (vz:=vz) HS.out.dsk.lt HBV2.out).trans (KeptG.disk hN3))
    obtain ⟨F3,hF3⟩:∃ F3,F3=grow F v2 v3:=⟨_,rfl⟩
    rw [← hF3] at HS3 HK3
    clear c9 hN3 hF3
    refine hK.out _ _ ?_ (fun hH=>?_)
    ·exact fun _=>HS3.out.log
    clear hK K
    have hH:=hH rfl
    try simp only [Act.put,List.setIfInBounds_toArray,List.set_cons_zero,List.set_cons_succ]
    refine Late.tk 12 ?_ ?_ hH ?_;rotate_left 2
    rotate_left
    any_goals (intro wy hSw;(try dsimp only at hSw);have k0:wy.cell? ⟨lb,0,none⟩=some (.pointer (some ⟨p,0,none⟩)):=hSw.cell 0;have k2:wy.cell? ⟨lb,2,none⟩=some (.slice (some ⟨g,0,none⟩) nums.length c):=hSw.cell 2;have k3:wy.cell? ⟨lb,3,none⟩=some (.int .i64 (base:Int)):=hSw.cell 3;have k4:wy.cell? ⟨lb,4,none⟩=some (.bool begun):=hSw.cell 4;go_simp;try (with_reducible rfl))
    try simp only [Act.put,List.setIfInBounds_toArray,List.set_cons_zero,List.set_cons_succ]
    refine Late.Goes.done (by kernel_rfl) ?_ _
    go_wp2_with fail
    have hz3:=HS3.out.siz
    rw [HVZ.out] at hz3
    have hlc3:=last_cell hz3 (by omega)
    obtain ⟨z,hz⟩:∃ z,z=zs[zs.length - 1]'(by omega):=⟨_,rfl⟩
    rw [← hz] at hlc3
    have HZ:=Lib.hid hz
    have hsm:z≤2000000000:=by rw [hz];exact HI.out.2.2.2.1 _ (List.getElem_mem _)
    have ew:IntKind.i64.wrap ((z:Int)+(len:Int))=(z:Int)+(len:Int):=by rw [IntKind.wrap_i64];have:=HR0.out.2.2.2;omega
    have ew1:IntKind.i64.wrap ((zs.length:Int) - 1)=((zs.length - 1:Nat):Int):=by rw [IntKind.wrap_i64];omega
    have HZ3:=Lib.hid hz3
    have HLC3:=Lib.hid hlc3
    clear hz hz3
    have hidx:zs.length - 1 < zs.length:=by omega
    refine Late.region_goes (fun V=>V.cell? ⟨lb,5,none⟩=some (.slice (some ⟨gz,0,none⟩) zs.length cz)∧V.cell? ⟨gz,zs.length - 1,none⟩=some (.int .i64 (z:Int))) (fun j=>j == 16) (by kernel_rfl) ?_ (fun hH=>?_)
    ·exact ⟨by rw [← HVZ.out];exact (HS3.out.below ((Below.refl _ v3).drew)).log.cell 5,((Below.refl v3.heap.size v3).drew.cell (p:=⟨gz,zs.length - 1,none⟩) (HZ3.out.lt gz rfl).2).trans hlc3⟩
    refine Late.tk 0 ?_ ?_ hH ?_;rotate_left 2
    refine Late.tk 1 ?_ ?_ hH ?_;rotate_left 2
    refine Late.tk 2 ?_ ?_ hH ?_;rotate_left 2
    refine Late.tk 3 ?_ ?_ hH ?_;rotate_left 2
    refine Late.tk 4 ?_ ?_ hH ?_;rotate_left 2
    refine Late.tk 5 ?_ ?_ hH ?_;rotate_left 2
    refine Late.tk 6 ?_ ?_ hH ?_;rotate_left 2
    refine Late.tk 7 ?_ ?_ hH ?_;rotate_left 2
    refine Late.tk 8 ?_ ?_ hH ?_;rotate_left 2
    refine Late.tk 9 ?_ ?_ hH ?_;rotate_left 2
    refine Late.tk 10 ?_ ?_ hH ?_;rotate_left 2
    refine Late.tk 11 ?_ ?_ hH ?_;rotate_left 2
    refine Late.tk 12 ?_ ?_ hH ?_;rotate_left 2
    refine Late.tk 13 ?_ ?_ hH ?_;rotate_left 2
    refine Late.tk 14 ?_ ?_ hH ?_;rotate_left 2
    refine Late.tk 15 ?_ ?_ hH ?_;rotate_left 2
    rotate_left
    any_goals (intro wy hSw;(try dsimp only at hSw);have k5:=hSw.1;have kz:=hSw.2;go_simp;try (with_reducible rfl))
    try simp only [Act.put,List.setIfInBounds_toArray,List.set_cons_zero,List.set_cons_succ]
    have HS4:=Lib.hid (HS3.out.below ((Below.refl _ v3).drew))
    have hz4:=HS4.out.siz
    rw [HVZ.out] at hz4
    obtain ⟨cs4,hcs4⟩:=own_blk hz4
    have yz:v3.drew.frozen? ⟨gz,zs.length - 1,none⟩=false:=hcs4.frozen _
    have kz4:v3.drew.cell? ⟨gz,zs.length - 1,none⟩=some (.int .i64 (z:Int)):=((Below.refl v3.heap.size v3).drew.cell (p:=⟨gz,zs.length - 1,none⟩) (HZ3.out.lt gz rfl).2).trans hlc3
    have HZ4:=Lib.hid hz4
    clear hz4 hcs4 hlc3
    refine Late.Goes.one (i:=16) (by kernel_rfl) (by simp only [List.getElem?_toArray,List.getElem?_cons_succ,List.getElem?_cons_zero];rfl) (fun K hK=>?_)
    clear hH
    go_simp
    clear yz kz4
    refine hK.out _ _ ?_ (fun _=>?_)
    ·exact fun h=>by cases h
    clear hK K
    try simp only [Act.put,List.setIfInBounds_toArray,List.set_cons_zero,List.set_cons_succ]
    refine Late.Goes.done (by kernel_rfl) ?_ _
    go_wp2_with fail
    go_ret
    have hz5:=(HZ4.out.stored (zs.length - 1) (.int .i64 ((z:Int)+(len:Int)))).1
    have hbs:=Disk.but_set v3.drew gz (zs.length - 1) (.int .i64 ((z:Int)+(len:Int)))
    have hs4:=HS4.out
    have hgzo:(vz).ownBlock=some gz:=by rw [HVZ.out];rfl
    have hfz:=hs4.fz gz hgzo
    have hgl:gz≠lb:=fun e=>by
     obtain ⟨cs5,h5⟩:=own_blk HZ4.out
     exact (h5.ne_ hs4.log (by decide)) e
    have e5:(intCells zs).set (zs.length - 1) (.int .i64 ((z:Int)+(len:Int)))=intCells (zs.set (zs.length - 1) (z+len)):=intCells_set zs (zs.length - 1) (z+len)
    rw [e5] at hz5
    obtain ⟨q1,q2,q3⟩:=HRO.out
    refine ⟨F3,g,c,vz,((HKP.out).trans HK3.out).trans ((KeptG.below (g:=g) (lb:=lb) (vz:=vz) HS3.out.dsk.lt ((Below.refl _ v3).drew)).trans (KeptG.store hbs (fun k hk => .inr (by rw [show k=gz from hk];exact hgzo)))),.inl ⟨by rw [q1,HRQ9.out];exact HE9.out,rfl,?_⟩⟩
    rw [q1,HRQ9.out,q2,q3 z HZ.out]
    refine ⟨hs4.dsk.but_ hbs (fun k hk e=>hfz.1 ((show k=gz from e) ▸ hk)),hs4.log.but hbs (fun e=>hgl (show lb=gz from e).symm),hs4.nms.but hbs (fun e=>hfz.2 (show g=gz from e).symm),?_,hs4.flb,hs4.fg,hs4.fz,hs4.gl⟩
    rw [HVZ.out,List.length_set]
    exact hz5
   ·have hv:=errV_bad e9
    unfold After at c9
    rw [hv] at c9
    have HV:=Lib.hid (And.intro e9 hv)
    clear e9 hv
    refine Late.Goes.one (i:=11) (by kernel_rfl) (by simp only [List.getElem?_toArray,List.getElem?_cons_succ,List.getElem?_cons_zero];rfl) (fun K hK=>?_)
    clear hH
    go_simp
    go_at_call 67
    refine c9.mono ?_
    rintro e v3 ⟨rfl,hN3⟩
    have HS3:=Lib.hid (HS2.out.disk hN3)
    have HK3:=Lib.hid ((KeptG.below (g:=g) (lb:=lb) (vz:=vz) HS.out.dsk.lt HBV2.out).trans (KeptG.disk hN3))
    clear c9 hN3
    refine hK.out _ _ ?_ (fun hH=>?_)
    ·exact fun _=>HS3.out.log
    clear hK K
    have hH:=hH rfl
    try simp only [Act.put,List.setIfInBounds_toArray,List.set_cons_zero,List.set_cons_succ]
    refine Late.tk 12 ?_ ?_ hH ?_;rotate_left 2
    rotate_left
    any_goals (intro wy hSw;(try dsimp only at hSw);have k0:wy.cell? ⟨lb,0,none⟩=some (.pointer (some ⟨p,0,none⟩)):=hSw.cell 0;go_simp;try (with_reducible rfl))
    try simp only [Act.put,List.setIfInBounds_toArray,List.set_cons_zero,List.set_cons_succ]
    refine Late.Goes.done (by kernel_rfl) ?_ _
    go_wp2_with fail
    go_ret
    obtain ⟨q1,q2,q3⟩:=HRO.out
    refine ⟨_,g,c,vz,(HKP.out).trans HK3.out,.inr ⟨by rw [q1,HRQ9.out];exact HV.out.1,by rw [q1,HRQ9.out,HV.out.2];rfl,nums,base,begun,zs,?_⟩⟩
    rw [q1,HRQ9.out]
    exact HS3.out
end
end Go.Proofs.YtbhoknnjilidnaaGreatDoor.Seg

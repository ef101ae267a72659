/- SeglogPlays, for every input: the statement's row, lifted from the walk of the law, and the tied card over it (the tables that the row lists are as the program's text lays them). Ahead of it: the law walked, what it lets go, and its deeds that came in opened to their cells. Laid close, for a claim's bounds. -/
import Derived.Test.YtbhoknnjilidnaaGreatDoorG48
import Derived.Test.YtbhoknnjilidnaaGreatDoorG49
import Derived.Test.YtbhoknnjilidnaaGreatDoorG50
import Derived.Test.YtbhoknnjilidnaaGreatDoorG51
import Derived.Test.YtbhoknnjilidnaaGreatDoorG46
import Derived.Test.YtbhoknnjilidnaaGreatDoorG17
import Derived.Deep.Slices
import Derived.Deep.Fields
import Derived.ChangeSame
import Derived.OpenShut
import Derived.ShutString
import Derived.Test.YtbhoknnjilidnaaGreatDoorRows
import Derived.Test.YtbhoknnjilidnaaGreatDoorCards
import Derived.Test.YtbhoknnjilidnaaGreatDoorTie
import Derived.WalkKit
import Derived.ProofKit
import Derived.ChangeOld
import Derived.Below
import Derived.JoinedCond
import Derived.SevenTiedAt
import Derived.Stop.LaidErr
import Derived.Deep.DeepHandedRow
import Derived.Deep.DeepWitnessRowRef
import Derived.SizedLaws
import Derived.Lib.LaidTab
import Derived.Lib.LaidIn
set_option linter.unusedSimpArgs false
set_option linter.unusedVariables false
set_option maxHeartbeats 8000000
set_option maxRecDepth 1000000
section
namespace Go.Proofs.YtbhoknnjilidnaaGreatDoor.Seg
open Go.Proofs.YtbhoknnjilidnaaGreatDoor.Mem
open Go.Proofs.YtbhoknnjilidnaaGreatDoor.Disk (Nm File St Has grow errV tot planned opened)
open Go.Proofs.YtbhoknnjilidnaaGreatDoor.Rec (Rcd Recs Is okBody)
open Go.Proofs.YtbhoknnjilidnaaGreatDoor.Torn (Gp gcells gpl Pcs Lists frames size)
open Go.ChangeShapes Go.WideShapes Go.ChangeAt Go.RowKit
theorem splays_any (limit cap:Int) (a:Option Addr) (ds:List Dd) (cp:Nat) (w:World) (hl1:100≤limit) (hl2:limit≤100000) (hc1:5000≤cap) (hc2:cap≤1000000) (hds:ds.length≤50) (hD:Dds w a ds) :
  Calls Tryz.prog 3 #[.int .i64 limit,.int .i64 cap,.slice a ds.length cp] w fun e w'=>e = .returned (.bool true)∧Below w.heap.size w w':=by
 have t1:decide (100000 < limit)=false:=decide_eq_false (by omega)
 have t2:decide (cap < 5000)=false:=decide_eq_false (by omega)
 have t3:decide (1000000 < cap)=false:=decide_eq_false (by omega)
 have t4:decide ((50:Int) < (ds.length:Int))=false:=decide_eq_false (by omega)
 have t4b:decide (50 < ds.length)=false:=decide_eq_false (by omega)
 have t5:decide (limit < 100)=false:=decide_eq_false (by omega)
 obtain ⟨N0,hN0⟩:∃ N0,N0=ds.length:=⟨_,rfl⟩
 rw [← hN0] at t4 t4b hds ⊢
 have HN0:=Lib.hid hN0
 have HDS:=Lib.hid hD
 clear hD hN0
 go_enter Tryz.func3,Tryz.ntmps3
 go_wp2_with fail
 refine (up_any w).mono ?_
 rintro e w1 ⟨rfl,hb1⟩
 have HB1:=Lib.hid hb1
 clear hb1
 go_wp2_with fail
 refine (dsk_fresh cap (by omega) _).mono ?_
 rintro e w2 ⟨p,rfl,hD,hB2⟩
 have c3:=open_fresh_at hD (limit:=limit) (by omega) (by omega) (by omega)
 have HB2:=Lib.hid (And.intro hB2 (HB1.out.trans (hB2.mono HB1.out.size)))
 clear hD hB2
 go_wp2_with fail
 refine c3.mono ?_
 clear c3
 rintro e w3 ⟨T,lb,F1,g,c,vz,ap,cp3,aq,cq,rfl,hS,hL,hpl,htot,hft,hbt,OB,hOB,hown,hoff⟩
 have HM3:=Lib.hid (show ∀ k,foot lb g vz F1 k→w.heap.size≤k from fun k hk=>by
  have hz:=HB2.out.1.size
  have hz1:=HB1.out.size
  rcases hft k hk with (h1|h1)|h1
  ·exact h1.elim
  ·omega
  ·omega)
 have hB3:=hbt.below HB2.out.1.size (fun k hk=>hk.elim (fun h=>h.elim) (fun h=>h.1))
 have HB3:=Lib.hid (HB2.out.2.trans (hB3.mono HB1.out.size))
 have hbx:=(Below.refl _ w3).alloc (Nat.le_refl _) (.cells #[.slice none 0 0,.int .i64 (-1),.bool false] 36)
 have hst:Disk.Blk (w3.alloc (.cells #[.slice none 0 0,.int .i64 (-1),.bool false] 36)) w3.heap.size 36 #[.slice none 0 0,.int .i64 (-1),.bool false]:=Disk.Blk.new _ _ _
 have HR:=Lib.hid (show PRel w p w3.heap.size limit cap N0 (.pointer (some ⟨lb,0,none⟩)) (.slice aq 0 cq) (.int .i64 0) (w3.alloc (.cells #[.slice none 0 0,.int .i64 (-1),.bool false] 36)) from
  ⟨0,lb,aq,cq,T,[1],0,false,fun _=>[],1,F1,g,c,vz,none,0,[],Nat.zero_le _,rfl,rfl,rfl,hS.below hbx,live_first hL,by omega,fun h=>absurd rfl h,
   ⟨hst,fun h=>by have:=hS.lt_ _ h;omega,HB3.out.trans (hbx.mono HB3.out.size),HM3.out,fun j hj=>Nat.lt_of_lt_of_le (hS.lt_ j hj) hbx.size,HB3.out.size,(fun _ h=>by cases h),(fun _ h=>by cases h),(fun h=>absurd h (by simp)),⟨Nat.le_refl _,Nat.zero_le _⟩,fun _=>rfl,(fun _ h=>by cases h),(fun _ h=>by cases h),(fun h=>absurd h (by simp [allSpots,spotsOf,Torn.piecesOf])),⟨(own_facts hown).2.1,(own_facts hown).2.2.1⟩,(own_facts hown).1,(fun q hq=>((own_facts hown).2.2.2 q hq).2.2.1),(fun q hq=>by
    have h1:=(own_facts hown).2.2.2 q hq
    have h2:=HB2.out.2.size
    have h3:=hbx.size
    exact ⟨by omega,by omega,by omega,hoff _ h1.2.2.2⟩)⟩,rfl,Nat.le_refl _⟩)
 obtain ⟨sb,hsb⟩:∃ b,b=w3.heap.size:=⟨_,rfl⟩
 obtain ⟨W,hW⟩:∃ W,W=w3.alloc (.cells #[.slice none 0 0,.int .i64 (-1),.bool false] 36):=⟨_,rfl⟩
 rw [← hsb,← hW] at HR
 clear hown hoff hOB hS hL hft hbt hB3 htot hpl hbx hst HM3 HB3 HB2
 go_wp2_with fail
 rw [← hsb,← hW]
 clear hsb hW
 go_loopw [9,11,14] (fun vl vs vi wr=>PRel w p sb limit cap N0 vl vs vi wr) (fun _ _ i _=>N0 - (intOf i).toNat)
 case atStart=>exact HR.out
 case round =>
  clear HR T F1 g c vz
  obtain ⟨k,lb1,aq1,cq1,S,nums,base,begun,fr,i,F,g,c,vz,a1,cp1,ls,hk,rfl,rfl,rfl,hS,hV,hik,hbb,hH,hls,hlk⟩:=hrel
  by_cases hlt:k < N0
  ·have hk2:k < ds.length:=by rw [← HN0.out];exact hlt
   obtain ⟨db,doff,rfl,hdb,hcells⟩:=HDS.out.at_ (by omega)
   have hok:=HDS.out.ok _ (List.getElem_mem hk2)
   have hdc:∀ V,Below w.heap.size w V→V.cell? ⟨db,doff+k * 5,none⟩=some (.int .i64 ds[k].what)∧V.cell? ⟨db,doff+k * 5+1,none⟩=some (.slice ds[k].a ds[k].l.length ds[k].cap)∧V.cell? ⟨db,doff+k * 5+2,none⟩=some (.bool ds[k].dn)∧V.cell? ⟨db,doff+k * 5+3,none⟩=some (.int .i64 ds[k].ef)∧V.cell? ⟨db,doff+k * 5+4,none⟩=some (.int .i64 ds[k].kp):=fun V hb =>
    ⟨(hb.cell (p:=⟨db,doff+k * 5,none⟩) hdb).trans (hcells k hk2 0 _ rfl),(hb.cell (p:=⟨db,doff+k * 5+1,none⟩) hdb).trans (hcells k hk2 1 _ rfl),(hb.cell (p:=⟨db,doff+k * 5+2,none⟩) hdb).trans (hcells k hk2 2 _ rfl),(hb.cell (p:=⟨db,doff+k * 5+3,none⟩) hdb).trans (hcells k hk2 3 _ rfl),(hb.cell (p:=⟨db,doff+k * 5+4,none⟩) hdb).trans (hcells k hk2 4 _ rfl)⟩
   clear hcells t1 t2 t3 t4 t4b t5
   have hp8:=pickN_lt ds[k].what
   rcases (by omega:pickN ds[k].what < 5∨pickN ds[k].what=5∨pickN ds[k].what=6∨pickN ds[k].what=7) with hw|hw|hw|hw
   ·refine splays_A w wr p sb limit cap N0 k db doff cp ds[k] ⟨hl1,hl2⟩ ⟨hc1,hc2⟩ hds hlt hdc hdb hok lb1 aq1 cq1 S nums base begun fr i F g c vz a1 cp1 ls hS hV hik hbb hH hls hlk hw (fun _ _ o _ _ h=>by cases o <;> exact h) ?_ ?_
    ·intros
     rename_i hz
     go_ret
     exact ⟨rfl,hz⟩
    ·intros
     rename_i hz
     change _∧_
     refine ⟨?_,by simp [intOf];omega⟩
     iterate 220 apply Exists.intro
     exact ⟨hz,rfl⟩
   ·refine splays_5 w wr p sb limit cap N0 k db doff cp ds[k] ⟨hl1,hl2⟩ ⟨hc1,hc2⟩ hds hlt hdc hdb hok lb1 aq1 cq1 S nums base begun fr i F g c vz a1 cp1 ls hS hV hik hbb hH hls hlk hw (fun _ _ o _ _ h=>by cases o <;> exact h) ?_ ?_
    ·intros
     rename_i hz
     go_ret
     exact ⟨rfl,hz⟩
    ·intros
     rename_i hz
     change _∧_
     refine ⟨?_,by simp [intOf];omega⟩
     iterate 220 apply Exists.intro
     exact ⟨hz,rfl⟩
   ·refine splays_6 w wr p sb limit cap N0 k db doff cp ds[k] ⟨hl1,hl2⟩ ⟨hc1,hc2⟩ hds hlt hdc hdb hok lb1 aq1 cq1 S nums base begun fr i F g c vz a1 cp1 ls hS hV hik hbb hH hls hlk hw (fun _ _ o _ _ h=>by cases o <;> exact h) ?_ ?_
    ·intros
     rename_i hz
     go_ret
     exact ⟨rfl,hz⟩
    ·intros
     rename_i hz
     change _∧_
     refine ⟨?_,by simp [intOf];omega⟩
     iterate 220 apply Exists.intro
     exact ⟨hz,rfl⟩
   ·refine splays_7 w wr p sb limit cap N0 k db doff cp ds[k] ⟨hl1,hl2⟩ ⟨hc1,hc2⟩ hds hlt hdc hdb hok lb1 aq1 cq1 S nums base begun fr i F g c vz a1 cp1 ls hS hV hik hbb hH hls hlk hw (fun _ _ o _ _ h=>by cases o <;> exact h) ?_ ?_
    ·intros
     rename_i hz
     go_ret
     exact ⟨rfl,hz⟩
    ·intros
     rename_i hz
     change _∧_
     refine ⟨?_,by simp [intOf];omega⟩
     iterate 220 apply Exists.intro
     exact ⟨hz,rfl⟩
  ·have hkn:k=N0:=by omega
   subst hkn
   have HB:=Lib.hid hH.below
   clear hS hV hbb hH hls hlk hik
   go_wp2_with fail
   go_ret
   exact ⟨rfl,HB.out⟩
end Go.Proofs.YtbhoknnjilidnaaGreatDoor.Seg
end
section
namespace Go.Proofs.YtbhoknnjilidnaaGreatDoor.Seg
open Go.Proofs.YtbhoknnjilidnaaGreatDoor.Mem
open Go.ChangeShapes Go.WideShapes Go.ChangeAt Go.RowKit
theorem splays_away (limit cap:Int) (a:Option Addr) (n cp:Nat) (w:World) (hn:n≤9223372036854775807) (h:100000 < limit∨cap < 5000∨1000000 < cap∨50 < n) :
  Calls Tryz.prog 3 #[.int .i64 limit,.int .i64 cap,.slice a n cp] w fun e w'=>e = .returned (.bool true)∧Below w.heap.size w w':=by
 go_enter Tryz.func3,Tryz.ntmps3
 go_wp2_with fail
 refine (up_any w).mono ?_
 rintro e w1 ⟨rfl,hb1⟩
 have HB1:=Lib.hid hb1
 clear hb1
 by_cases h1:100000 < limit
 ·have t1:decide (100000 < limit)=true:=decide_eq_true h1
  clear h
  go_wp2_with fail
  go_ret
  exact ⟨rfl,HB1.out⟩
 have t1:decide (100000 < limit)=false:=decide_eq_false h1
 by_cases h2:cap < 5000
 ·have t2:decide (cap < 5000)=true:=decide_eq_true h2
  clear h
  go_wp2_with fail
  go_ret
  exact ⟨rfl,HB1.out⟩
 have t2:decide (cap < 5000)=false:=decide_eq_false h2
 by_cases h3:1000000 < cap
 ·have t3:decide (1000000 < cap)=true:=decide_eq_true h3
  clear h
  go_wp2_with fail
  go_ret
  exact ⟨rfl,HB1.out⟩
 have t3:decide (1000000 < cap)=false:=decide_eq_false h3
 have h4:50 < n:=by omega
 have t4:decide ((50:Int) < (n:Int))=true:=decide_eq_true (by omega)
 have t4b:decide (50 < n)=true:=decide_eq_true h4
 clear h
 go_wp2_with fail
 go_ret
 exact ⟨rfl,HB1.out⟩
theorem splays_low (limit cap:Int) (a:Option Addr) (n cp:Nat) (w:World) (hl:limit < 100) (hc1:5000≤cap) (hc2:cap≤1000000) (hn:n≤50) :
  Calls Tryz.prog 3 #[.int .i64 limit,.int .i64 cap,.slice a n cp] w fun e w'=>e = .returned (.bool true)∧Below w.heap.size w w':=by
 have t1:decide (100000 < limit)=false:=decide_eq_false (by omega)
 have t2:decide (cap < 5000)=false:=decide_eq_false (by omega)
 have t3:decide (1000000 < cap)=false:=decide_eq_false (by omega)
 have t4:decide ((50:Int) < (n:Int))=false:=decide_eq_false (by omega)
 have t4b:decide (50 < n)=false:=decide_eq_false (by omega)
 have t5:decide (limit < 100)=true:=decide_eq_true hl
 have ke:=Err.code_eql 1 1
 go_enter Tryz.func3,Tryz.ntmps3
 go_wp2_with fail
 refine (up_any w).mono ?_
 rintro e w1 ⟨rfl,hb1⟩
 have HB1:=Lib.hid hb1
 clear hb1
 go_wp2_with fail
 refine (dsk_fresh cap (by omega) _).mono ?_
 rintro e w2 ⟨p,rfl,hD,hB2⟩
 have HB2:=Lib.hid (HB1.out.trans (hB2.mono HB1.out.size))
 clear hD hB2
 go_wp2_with fail
 refine (open_low _ limit hl _).mono ?_
 rintro e w' ⟨rfl,hw'⟩
 try subst hw'
 go_wp2_with fail
 go_ret
 exact ⟨rfl,HB2.out⟩
end Go.Proofs.YtbhoknnjilidnaaGreatDoor.Seg
end
section
namespace Go.Proofs.YtbhoknnjilidnaaGreatDoor.Rec
open Go.Proofs.YtbhoknnjilidnaaGreatDoor.Mem Go.Proofs.YtbhoknnjilidnaaGreatDoor.Pack
open Go.Deep Go.ChangeShapes Go.WideShapes Go.ChangeAt Go.RowKit
theorem wf64 {n:Int} (h:(Lit.int .i64 n).wf=true) : -9223372036854775808≤n∧n≤9223372036854775807:=by
 simpa [Lit.wf,IntKind.min,IntKind.max,IntKind.signed,IntKind.bits] using h
theorem wfu32 {n:Int} (h:(Lit.int .u32 n).wf=true):∃ k:Nat,n=(k:Int)∧k < 4294967296:=by
 have:0≤n∧n≤4294967295:=by simpa [Lit.wf,IntKind.min,IntKind.max,IntKind.signed,IntKind.bits] using h
 exact ⟨n.toNat,by omega,by omega⟩
theorem wfu64 {n:Int} (h:(Lit.int .u64 n).wf=true):∃ k:Nat,n=(k:Int)∧k < 18446744073709551616:=by
 have:0≤n∧n≤18446744073709551615:=by simpa [Lit.wf,IntKind.min,IntKind.max,IntKind.signed,IntKind.bits] using h
 exact ⟨n.toNat,by omega,by omega⟩
theorem list_succ {α:Type} {l:List α} {n:Nat} (h:l.length=n+1):∃ a r,l=a :: r∧r.length=n:=by
 cases l with
 | nil=>cases h
 | cons a r=>exact ⟨a,r,rfl,by simpa using h⟩
theorem list12 {α:Type} {l:List α} (h:l.length=12):∃ y0 y1 y2 y3 y4 y5 y6 y7 y8 y9 y10 y11,l=[y0,y1,y2,y3,y4,y5,y6,y7,y8,y9,y10,y11]:=by
 obtain ⟨y0,r0,rfl,h0⟩:=list_succ h
 obtain ⟨y1,r1,rfl,h1⟩:=list_succ h0
 obtain ⟨y2,r2,rfl,h2⟩:=list_succ h1
 obtain ⟨y3,r3,rfl,h3⟩:=list_succ h2
 obtain ⟨y4,r4,rfl,h4⟩:=list_succ h3
 obtain ⟨y5,r5,rfl,h5⟩:=list_succ h4
 obtain ⟨y6,r6,rfl,h6⟩:=list_succ h5
 obtain ⟨y7,r7,rfl,h7⟩:=list_succ h6
 obtain ⟨y8,r8,rfl,h8⟩:=list_succ h7
 obtain ⟨y9,r9,rfl,h9⟩:=list_succ h8
 obtain ⟨y10,r10,rfl,h10⟩:=list_succ h9
 obtain ⟨y11,r11,rfl,h11⟩:=list_succ h10
 obtain rfl:=List.eq_nil_of_length_eq_zero h11
 exact ⟨y0,y1,y2,y3,y4,y5,y6,y7,y8,y9,y10,y11,rfl⟩
theorem list14 {α:Type} {l:List α} (h:l.length=14):∃ v0 v1 v2 v3 v4 v5 v6 v7 v8 v9 v10 v11 v12 v13,l=[v0,v1,v2,v3,v4,v5,v6,v7,v8,v9,v10,v11,v12,v13]:=by
 obtain ⟨v0,r0,rfl,h0⟩:=list_succ h
 obtain ⟨v1,r1,rfl,h1⟩:=list_succ h0
 obtain ⟨v2,r2,rfl,h2⟩:=list_succ h1
 obtain ⟨v3,r3,rfl,h3⟩:=list_succ h2
 obtain ⟨v4,r4,rfl,h4⟩:=list_succ h3
 obtain ⟨v5,r5,rfl,h5⟩:=list_succ h4
 obtain ⟨v6,r6,rfl,h6⟩:=list_succ h5
 obtain ⟨v7,r7,rfl,h7⟩:=list_succ h6
 obtain ⟨v8,r8,rfl,h8⟩:=list_succ h7
 obtain ⟨v9,r9,rfl,h9⟩:=list_succ h8
 obtain ⟨v10,r10,rfl,h10⟩:=list_succ h9
 obtain ⟨v11,r11,rfl,h11⟩:=list_succ h10
 obtain ⟨v12,r12,rfl,h12⟩:=list_succ h11
 obtain ⟨v13,r13,rfl,h13⟩:=list_succ h12
 obtain rfl:=List.eq_nil_of_length_eq_zero h13
 exact ⟨v0,v1,v2,v3,v4,v5,v6,v7,v8,v9,v10,v11,v12,v13,rfl⟩
section
variable {H:Type} {enc:TypeId × Value→H} {w:World} {spare:Nat→Bool} {held:Bool}
theorem quota_read {fuel:Nat} {v0 v1 v2:Value} {z:DataW H × List MemPlace} (h:DataW.trod enc Tryz.prog w 0 spare held fuel 76 [v0,v1,v2]=some z):∃ a b c:Int,v0 = .int .i64 a∧v1 = .int .i64 b∧v2 = .int .i64 c:=by
 have k2:Tryz.prog.cellsOf 2=1:=by kernel_rfl
 obtain ⟨xs,n,_,_,_,hlen,hall⟩:=DataW.trod_struct Tryz.underlying76 h
 match xs,hlen with
 | [y0,y1,y2],_ =>
  have h0:=hall 0 _ rfl
  have h1:=hall 1 _ rfl
  have h2:=hall 2 _ rfl
  simp [k2] at h0 h1 h2
  obtain ⟨a,e0,_,_⟩:=DataW.trod_int Tryz.underlying2 h0
  obtain ⟨b,e1,_,_⟩:=DataW.trod_int Tryz.underlying2 h1
  obtain ⟨c,e2,_,_⟩:=DataW.trod_int Tryz.underlying2 h2
  injection e0 with e0
  injection e1 with e1
  injection e2 with e2
  exact ⟨a,b,c,e0,e1,e2⟩
theorem rec_read {fuel:Nat} {cs:List Value} {z:DataW H × List MemPlace} (h:DataW.trod enc Tryz.prog w 0 spare held fuel 79 cs=some z):∃ r:Rcd,cs=(cells r).toList∧Is r:=by
 have k_int:Tryz.prog.cellsOf 3=1:=by kernel_rfl
 have k_uint32:Tryz.prog.cellsOf 54=1:=by kernel_rfl
 have k_uint64:Tryz.prog.cellsOf 77=1:=by kernel_rfl
 have k_string:Tryz.prog.cellsOf 9=1:=by kernel_rfl
 have k_q:Tryz.prog.cellsOf 76=3:=by kernel_rfl
 have k_r:Tryz.prog.cellsOf 79=14:=by kernel_rfl
 obtain ⟨xs,n,_,_,hcl,hlen,hall⟩:=DataW.trod_struct Tryz.underlying79 h
 rw [k_r] at hcl
 clear h
 obtain ⟨v0,v1,v2,v3,v4,v5,v6,v7,v8,v9,v10,v11,v12,v13,rfl⟩:=list14 hcl
 obtain ⟨y0,y1,y2,y3,y4,y5,y6,y7,y8,y9,y10,y11,rfl⟩:=list12 hlen
 have h0:=hall 0 _ rfl
 have h1:=hall 1 _ rfl
 have h2:=hall 2 _ rfl
 have h3:=hall 3 _ rfl
 have h4:=hall 4 _ rfl
 have h5:=hall 5 _ rfl
 have h6:=hall 6 _ rfl
 have h7:=hall 7 _ rfl
 have h8:=hall 8 _ rfl
 have h9:=hall 9 _ rfl
 have h10:=hall 10 _ rfl
 have h11:=hall 11 _ rfl
 clear hall
 simp [k_int,k_uint32,k_uint64,k_string,k_q] at h0 h1 h2 h3 h4 h5 h6 h7 h8 h9 h10 h11
 obtain ⟨n0,e0,_,w0⟩:=DataW.trod_int Tryz.underlying3 h0
 injection e0 with e0
 subst e0
 have g0:=wf64 w0
 obtain ⟨n1,e1,_,w1⟩:=DataW.trod_int Tryz.underlying3 h1
 injection e1 with e1
 subst e1
 have g1:=wf64 w1
 obtain ⟨n2,e2,_,w2⟩:=DataW.trod_int Tryz.underlying54 h2
 injection e2 with e2
 subst e2
 obtain ⟨n2,rfl,g2⟩:=wfu32 w2
 obtain ⟨qa,qb,qc,rfl,rfl,rfl⟩:=quota_read h3
 obtain ⟨n4,e4,_,w4⟩:=DataW.trod_int Tryz.underlying77 h4
 injection e4 with e4
 subst e4
 obtain ⟨n4,rfl,g4⟩:=wfu64 w4
 obtain ⟨n5,e5,_,w5⟩:=DataW.trod_int Tryz.underlying54 h5
 injection e5 with e5
 subst e5
 obtain ⟨n5,rfl,g5⟩:=wfu32 w5
 obtain ⟨n6,e6,_,w6⟩:=DataW.trod_int Tryz.underlying3 h6
 injection e6 with e6
 subst e6
 have g6:=wf64 w6
 obtain ⟨n7,e7,_,w7⟩:=DataW.trod_int Tryz.underlying77 h7
 injection e7 with e7
 subst e7
 obtain ⟨n7,rfl,g7⟩:=wfu64 w7
 obtain ⟨n8,e8,_,w8⟩:=DataW.trod_string Tryz.underlying9 h8
 injection e8 with e8
 subst e8
 obtain ⟨n9,e9,_,w9⟩:=DataW.trod_string Tryz.underlying9 h9
 injection e9 with e9
 subst e9
 obtain ⟨n10,e10,_,w10⟩:=DataW.trod_int Tryz.underlying77 h10
 injection e10 with e10
 subst e10
 obtain ⟨n10,rfl,g10⟩:=wfu64 w10
 obtain ⟨n11,e11,_,w11⟩:=DataW.trod_int Tryz.underlying77 h11
 injection e11 with e11
 subst e11
 obtain ⟨n11,rfl,g11⟩:=wfu64 w11
 have hmx:maxLen=9223372036854775807:=rfl
 rw [hmx] at w8 w9
 exact ⟨⟨n0,n1,n2,qa,qb,qc,n4,n5,n6,n7,n8,n9,n10,n11⟩,rfl,⟨g0,g1,g2,g4,g5,g6,g7,w8,w9,g10,g11⟩⟩
theorem recs_read {fuel:Nat} {v:Value} {y:DataW H × List MemPlace} (h:DataW.trod enc Tryz.prog w 0 (fun _=>true) true fuel 38 [v]=some y) :
  ∃ (a:Option Addr) (l:List Rcd) (cap:Nat),v = .slice a l.length cap∧Recs w a l∧l.length≤cap∧cap≤maxLen:=by
 have hsz:Tryz.prog.cellsOf 79=14:=by kernel_rfl
 rcases open_slice Tryz.underlying38 h with ⟨hcs,_⟩|⟨x,len,c,m,n0,D,Pl,hcs,_,hl,hm,hmm,_,hi⟩
 ·injection hcs with hv _
  exact ⟨none,[],0,hv,Recs.nil _ _,Nat.le_refl _,Nat.zero_le _⟩
 ·injection hcs with hv _
  have hmm':m=c:=by simpa using hmm
  have hall:∀ i,∃ r:Rcd,i < len→(Is r∧∀ j u,(cells r)[j]?=some u→w.cell? ((x.add (i * 14)).add j)=some u):=by
   intro i
   by_cases hil:i < len
   ·obtain ⟨cs,hc,hr⟩:=hi i (by omega)
    rw [hsz] at hc
    obtain ⟨r,rfl,hir⟩:=rec_read hr
    obtain ⟨_,hsize,hcells⟩:=World.cells?_some hc
    refine ⟨r,fun _=>⟨hir,fun j u hu=>?_⟩⟩
    have hj:j < 14:=(Array.getElem?_eq_some_iff.1 hu).1
    rw [hcells j hj]
    simpa using hu
   ·exact ⟨zero,fun h=>absurd h hil⟩
  obtain ⟨f,hf⟩:=Classical.skolem.1 hall
  have hlen:((List.range len).map f).length=len:=by simp
  refine ⟨some x,(List.range len).map f,c,by rw [hlen];exact hv,⟨fun r hr=>?_,fun hn=>?_⟩,by rw [hlen];exact hl,hm⟩
  ·obtain ⟨i,hir,rfl⟩:=List.mem_map.1 hr
   exact (hf i (List.mem_range.1 hir)).1
  ·rw [hlen] at hn
   obtain ⟨b,off,spot⟩:=x
   have h0:=(hf 0 hn).2 0 _ rfl
   have hspot:spot=none:=by simpa [Addr.add] using World.cell?_spot h0
   subst hspot
   refine ⟨b,off,rfl,block_lt_of_cell (a:=⟨b,off,none⟩) (by simpa [Addr.add] using h0),fun i hil j u hu=>?_⟩
   rw [hlen] at hil
   have h1:=(hf i hil).2 j u (by simpa using hu)
   rw [add_none,add_none] at h1
   exact h1
end
end Go.Proofs.YtbhoknnjilidnaaGreatDoor.Rec
end
section
namespace Go.Proofs.YtbhoknnjilidnaaGreatDoor.Seg
open Go.Proofs.YtbhoknnjilidnaaGreatDoor.Mem
open Go.Proofs.YtbhoknnjilidnaaGreatDoor.Rec (Rcd Is Recs recs_read wf64)
open Go.Deep Go.ChangeShapes Go.WideShapes Go.ChangeAt Go.RowKit
theorem dd_succ {α:Type} {l:List α} {n:Nat} (h:l.length=n+1):∃ a r,l=a :: r∧r.length=n:=by
 cases l with
 | nil=>cases h
 | cons a r=>exact ⟨a,r,rfl,by simpa using h⟩
section
variable {H:Type} {enc:TypeId × Value→H} {w:World}
theorem dd_read {fuel:Nat} {cs:List Value} {z:DataW H × List MemPlace} (h:DataW.trod enc Tryz.prog w 0 (fun _=>true) true fuel 40 cs=some z):∃ d:Dd,cs=ddc d∧OkDd w d:=by
 have k_int:Tryz.prog.cellsOf 3=1:=by kernel_rfl
 have k_bool:Tryz.prog.cellsOf 4=1:=by kernel_rfl
 have k_sl:Tryz.prog.cellsOf 38=1:=by kernel_rfl
 have k_r:Tryz.prog.cellsOf 40=5:=by kernel_rfl
 obtain ⟨xs,n,_,_,hcl,hlen,hall⟩:=DataW.trod_struct Tryz.underlying40 h
 rw [k_r] at hcl
 clear h
 obtain ⟨v0,r0,rfl,h0⟩:=dd_succ hcl
 obtain ⟨v1,r1,rfl,h1⟩:=dd_succ h0
 obtain ⟨v2,r2,rfl,h2⟩:=dd_succ h1
 obtain ⟨v3,r3,rfl,h3⟩:=dd_succ h2
 obtain ⟨v4,r4,rfl,h4⟩:=dd_succ h3
 obtain rfl:=List.eq_nil_of_length_eq_zero h4
 match xs,hlen with
 | [y0,y1,y2,y3,y4],_ =>
  have h0:=hall 0 _ rfl
  have h1:=hall 1 _ rfl
  have h2:=hall 2 _ rfl
  have h3:=hall 3 _ rfl
  have h4:=hall 4 _ rfl
  clear hall
  simp [k_int,k_bool,k_sl] at h0 h1 h2 h3 h4
  obtain ⟨n0,e0,_,w0⟩:=DataW.trod_int Tryz.underlying3 h0
  injection e0 with e0
  subst e0
  obtain ⟨a,l,cap,hv,hr,hl1,hl2⟩:=recs_read h1
  subst hv
  obtain ⟨b2,e2,_⟩:=DataW.trod_bool Tryz.underlying4 h2
  injection e2 with e2
  subst e2
  obtain ⟨n3,e3,_,w3⟩:=DataW.trod_int Tryz.underlying3 h3
  injection e3 with e3
  subst e3
  obtain ⟨n4,e4,_,w4⟩:=DataW.trod_int Tryz.underlying3 h4
  injection e4 with e4
  subst e4
  exact ⟨⟨n0,a,cap,l,b2,n3,n4⟩,rfl,⟨wf64 w0,wf64 w3,wf64 w4,hr,by unfold maxLen at hl2;show l.length≤9223372036854775807;omega⟩⟩
theorem dds_read {fuel:Nat} {v:Value} {y:DataW H × List MemPlace} (h:DataW.trod enc Tryz.prog w 0 (fun _=>true) true fuel 22 [v]=some y) :
  ∃ (a:Option Addr) (ds:List Dd) (cap:Nat),v = .slice a ds.length cap∧Dds w a ds∧ds.length≤cap∧cap≤maxLen:=by
 have hsz:Tryz.prog.cellsOf 40=5:=by kernel_rfl
 rcases open_slice Tryz.underlying22 h with ⟨hcs,_⟩|⟨x,len,c,m,n0,D,Pl,hcs,_,hl,hm,hmm,_,hi⟩
 ·injection hcs with hv _
  exact ⟨none,[],0,hv,⟨fun _ h=>by (simp at h),fun h=>by (simp at h)⟩,Nat.le_refl _,Nat.zero_le _⟩
 ·injection hcs with hv _
  have hmm':m=c:=by simpa using hmm
  have hall:∀ i,∃ r:Dd,i < len→(OkDd w r∧∀ j u,(ddc r)[j]?=some u→w.cell? ((x.add (i * 5)).add j)=some u):=by
   intro i
   by_cases hil:i < len
   ·obtain ⟨cs,hc,hr⟩:=hi i (by omega)
    rw [hsz] at hc
    obtain ⟨r,rfl,hir⟩:=dd_read hr
    obtain ⟨_,hsize,hcells⟩:=World.cells?_some hc
    refine ⟨r,fun _=>⟨hir,fun j u hu=>?_⟩⟩
    have hj:j < 5:=by
     have:=(List.getElem?_eq_some_iff.1 hu).1
     simpa [ddc] using this
    rw [hcells j hj]
    simpa using hu
   ·exact ⟨⟨0,none,0,[],false,0,0⟩,fun h=>absurd h hil⟩
  obtain ⟨f,hf⟩:=Classical.skolem.1 hall
  have hlen:((List.range len).map f).length=len:=by simp
  refine ⟨some x,(List.range len).map f,c,by rw [hlen];exact hv,⟨fun r hr=>?_,fun hn=>?_⟩,by rw [hlen];exact hl,hm⟩
  ·obtain ⟨i,hir,rfl⟩:=List.mem_map.1 hr
   exact (hf i (List.mem_range.1 hir)).1
  ·rw [hlen] at hn
   obtain ⟨b,off,spot⟩:=x
   have h0:=(hf 0 hn).2 0 _ rfl
   have hspot:spot=none:=by simpa [Addr.add] using World.cell?_spot h0
   subst hspot
   refine ⟨b,off,rfl,block_lt_of_cell (a:=⟨b,off,none⟩) (by simpa [Addr.add] using h0),fun i hil j u hu=>?_⟩
   rw [hlen] at hil
   have hu':(ddc (f i))[j]?=some u:=by simpa using hu
   have h1:=(hf i hil).2 j u hu'
   rw [add_none,add_none] at h1
   exact h1
end
end Go.Proofs.YtbhoknnjilidnaaGreatDoor.Seg
end
section
namespace Go.Proofs.YtbhoknnjilidnaaGreatDoor.seglogPlays
open Go.ChangeShapes Go.WideShapes Go.ChangeAt Go.RowKit
theorem own:ownKnob Tryz.prog.godebug=none:=by kernel_rfl
theorem laidOut:laidOutB Tryz.prog=true:=by kernel_rfl
def tab32:List Int:=[0,1,28,2,29,14,24,3,30,22,20,15,25,17,4,8,31,27,13,23,21,19,16,7,26,12,18,6,11,5,10,9]
def tab64:List Int:=[0,1,56,2,57,49,28,3,61,58,42,50,38,29,17,4,62,47,59,36,45,43,51,22,53,39,33,30,24,18,12,5,63,55,48,27,60,41,37,16,46,35,44,21,52,32,23,11,54,26,40,15,34,20,31,10,25,14,19,9,13,8,7,6]
noncomputable def laidWorld (os:Os):World :=
 let w0:=World.holding Tryz.prog os ⟨#[],#[],[]⟩
 let put (h:Array Obj) (g:Nat) (cs:Array Value):Array Obj:=h.modify g fun
  | .cells _ t frozen => .cells cs t frozen
  | o=>o
 { w0 with heap:=put (put (put w0.heap 0 (Lib.pow10Tab.map fun z=>Value.int .u64 z).toArray) 1 (tab32.map fun z=>Value.int .u8 z).toArray) 2 (tab64.map fun z=>Value.int .u8 z).toArray }
theorem laid_met (os:Os) (args:Array Value):laidMet Tryz.prog Rows.seglogPlaysRow.laid ((laidWorld os).forCall (fun _ _=>0) ⟨#[],args,[]⟩).memory :=
 (LaidIn.of_run [0,1,2] 8 (by kernel_rfl) (by kernel_rfl) (by kernel_rfl) (by kernel_rfl)).met
theorem witness_row (os:Os) {H:Type} (enc:TypeId × Value→H) :
  (OpenSpec.ofChange Rows.seglogPlaysSpec).preRow enc Tryz.prog Tryz.f3 Rows.seglogPlaysRow.domain false Rows.seglogPlaysRow.laid ((laidWorld os).forCall (fun _ _=>0) ⟨#[],#[.int .i64 0,.int .i64 0,.slice none 0 0],[]⟩).memory #[.int .i64 0,.int .i64 0,.slice none 0 0]:=by
 have hw:(DataW.whole enc Tryz.prog ((laidWorld os).forCall (fun _ _=>0) ⟨#[],#[.int .i64 0,.int .i64 0,.slice none 0 0],[]⟩).memory Tryz.f3.params.toList (OpenSpec.ofChange Rows.seglogPlaysSpec).vars false #[Value.int .i64 0,Value.int .i64 0,Value.slice none 0 0].toList 8).map (fun x=>(x.1,x.2.1)) =
   some ([.lit (.int .i64 0),.lit (.int .i64 0),.nil],[]):=by kernel_rfl
 obtain ⟨⟨x1,x2,x3⟩,hx,hx1⟩:=Option.map_eq_some_iff.1 hw
 simp only [Prod.mk.injEq] at hx1
 obtain ⟨rfl,rfl⟩:=hx1
 exact OpenSpec.preRow_of_cond 8 hx (by kernel_rfl) (fun k hk=>by cases hk) (by kernel_rfl) (laid_met os _)
theorem lifted (os:Os) (started:os.Started) (H:Type) (enc:TypeId × Value→H) (F:Stop.Interp) :
  ReturnsInHanded {} Tryz.checked os 3 .any ((OpenSpec.ofChange Rows.seglogPlaysSpec).preRow enc Tryz.prog Tryz.f3 Rows.seglogPlaysRow.domain false Rows.seglogPlaysRow.laid) (((OpenSpec.ofChange Rows.seglogPlaysSpec).at F).post enc Tryz.prog Tryz.f3 false true false false):=by
 refine returnsInHanded_of_row (C:=Tryz.checked) (s:=OpenSpec.ofChange Rows.seglogPlaysSpec) own started (by kernel_rfl) Tryz.func3
  (witness_row_atRef (enc:=enc) (C:=Tryz.checked) false (laidWorld os) #[.int .i64 0,.int .i64 0,.slice none 0 0] rfl (by kernel_rfl) (by kernel_rfl) (by kernel_rfl) (witness_row os enc)) ?_
 intro W base args ds gs before hval0 hW hcnd0 _ _ hL _ _
 have hval:∀ (j:Nat) t v,Tryz.f3.params[j]?=some t→args[j]?=some v→Value.okWide Tryz.prog W .any base t v:=hval0
 have hW':=hW
 obtain ⟨p,q,hA0,hV,rfl,hfz,hnd⟩:=hW
 have hA:DataW.TrodAll enc Tryz.prog W 0 (fun _=>true) true Tryz.f3.params.toList args.toList ds p:=hA0
 rw [Tryz.params3] at hA hval
 obtain ⟨v0,vs0,d0,ds0,p0,q0,hargs,rfl,rfl,h0,r0⟩:=trodAll_cons hA
 obtain ⟨v1,vs1,d1,ds1,p1,q1,rfl,rfl,rfl,h1,r1⟩:=trodAll_cons r0
 obtain ⟨v2,vs2,d2,ds2,p2,q2,rfl,rfl,rfl,h2,r2⟩:=trodAll_cons r1
 obtain ⟨rfl,rfl,rfl⟩:=trodAll_nil r2
 obtain rfl:args = #[v0,v1,v2]:=by cases args;simp_all
 obtain ⟨rfl,rfl⟩:=trodVars_none hV
 have k0:=h0
 have lt0:∀ x ∈ p0,x.block < W.heap.size:=by obtain ⟨m,hm⟩:=k0;exact DataW.trod_lt m _ _ _ hm
 have k1:=h1
 have lt1:∀ x ∈ p1,x.block < W.heap.size:=by obtain ⟨m,hm⟩:=k1;exact DataW.trod_lt m _ _ _ hm
 have k2:=h2
 have lt2:∀ x ∈ p2,x.block < W.heap.size:=by obtain ⟨m,hm⟩:=k2;exact DataW.trod_lt m _ _ _ hm
 obtain ⟨n,rfl,rfl,rfl,w1⟩:=open_int Tryz.underlying3 (hval 0 3 v0 rfl rfl) h0
 obtain ⟨m,rfl,rfl,rfl,w2⟩:=open_int Tryz.underlying3 (hval 1 3 v1 rfl rfl) h1
 obtain ⟨a,ds',c,rfl,hD,hlc,hcm⟩:∃ (a:Option Addr) (l:List Seg.Dd) (c:Nat),v2 = .slice a l.length c∧Seg.Dds W a l∧l.length≤c∧c≤maxLen:=by
  obtain ⟨m,hm⟩:=h2
  obtain ⟨a4,l4,c4,rfl⟩:=okWide_slice Tryz.underlying22 (hval 2 22 v2 rfl rfl)
  exact Seg.dds_read (by simpa [Value.cells] using hm)
 have hmx:maxLen=9223372036854775807:=rfl
 rw [hmx] at hcm
 clear hA0 hval0
 have walk:Calls Tryz.prog 3 #[.int .i64 n,.int .i64 m,.slice a ds'.length c] W fun e w'=>e = .returned (.bool true)∧Below W.heap.size W w':=by
  by_cases h:100000 < n∨m < 5000∨1000000 < m∨50 < ds'.length
  ·exact Seg.splays_away n m a ds'.length c W (by omega) h
  ·by_cases h2:n < 100
   ·exact Seg.splays_low n m a ds'.length c W h2 (by omega) (by omega) (by omega)
   ·exact Seg.splays_any n m a ds' c W (by omega) (by omega) (by omega) (by omega) (by omega) hD
 refine walk.mono fun e W' ⟨he,bel⟩=>?_
 subst he
 exact ⟨_,rfl,_,_,_,[],_,[],hW',trodAll_mk1 (shut_bool Tryz.underlying4 _),(trodAll_cons_mk (Below.trod laidOut (by kernel_rfl) (of_decide_eq_true (by kernel_rfl)) k0 bel lt0) (trodAll_cons_mk (Below.trod laidOut (by kernel_rfl) (of_decide_eq_true (by kernel_rfl)) k1 bel lt1) (trodAll_cons_mk (Below.trod laidOut (by kernel_rfl) (of_decide_eq_true (by kernel_rfl)) k2 bel lt2) trodAll_mk0))),rfl,bel.frame _,fun h=>by cases h⟩
theorem row_proof:Rows.SeglogPlaysSaid :=
 OpenClaim.holds_of_cond 3 Tryz.f3 rfl rfl rfl rfl rfl rfl rfl ⟨rfl,rfl,rfl,rfl,rfl⟩ rfl rfl rfl rfl rfl (by kernel_rfl) Tryz.func3 (by kernel_rfl)
  (of_decide_eq_true (by kernel_rfl)) (by unfold Func.isWrapper;first|(rw [if_pos (by decide +kernel)];kernel_rfl)|(rw [if_neg (by decide +kernel)];exact ⟨rfl,rfl⟩))
  (fun os started H enc _ F=>by rw [OpenClaim.pre_eq_preRow];exact lifted os started H enc F)
theorem proved:Rows.SeglogPlaysCardSaid :=
 Claim7.holds_tied_plain_at .later [] [.data, .data, .data] true (true, "6049f2644d9d0f27be7dab570744367d4d10d2b0776c8a6762631fb91433e065") true
  row_proof (fun _ h=>by cases h) (by kernel_rfl) (fun _ h=>by cases h) seglogPlays_row_tie rfl ⟨rfl,rfl⟩ (by kernel_rfl) rfl
  (fun f fn hf hfn=>by
   obtain rfl : f = 3 := Option.some.inj ((show Tryz.prog.funcNamed "hassock/hassocklaw08.SeglogPlays" = some 3 by kernel_rfl).symm.trans hf) |>.symm
   obtain rfl:fn=Tryz.f3:=(Option.some.inj (Tryz.func3.symm.trans hfn)).symm
   exact ⟨by kernel_rfl,fun j t ht=>by
    rw [Tryz.params3] at ht
    have hw:Tryz.prog.wantsStandIn 3=false∧Tryz.prog.wantsStandIn 22=false:=⟨by kernel_rfl,by kernel_rfl⟩
    rcases j with _|_|_|j
    ·obtain rfl:t=3:=by simpa using ht.symm
     exact hw.1
    ·obtain rfl:t=3:=by simpa using ht.symm
     exact hw.1
    ·obtain rfl:t=22:=by simpa using ht.symm
     exact hw.2
    ·simp at ht⟩)
  (by kernel_rfl)
end Go.Proofs.YtbhoknnjilidnaaGreatDoor.seglogPlays
end

/- Contracts: the law's done: an Append. -/
import Derived.Test.YtbhoknnjilidnaaGreatDoorG38
set_option linter.unusedSimpArgs false
set_option linter.unusedVariables false
set_option maxHeartbeats 4000000
set_option maxRecDepth 100000
namespace Go.Proofs.YtbhoknnjilidnaaGreatDoor.Seg
open Go.Proofs.YtbhoknnjilidnaaGreatDoor.Mem
open Go.Proofs.YtbhoknnjilidnaaGreatDoor.Rec (Rcd Recs Is okBody refBody_any)
open Go.Proofs.YtbhoknnjilidnaaGreatDoor.Torn (Lists)
open Go.ChangeShapes Go.WideShapes Go.ChangeAt Go.RowKit
def in3 (w:World) (x:Array Value) (y:Array Value):World:=((w.alloc (.cells x 36)).alloc (.cells y 40)).alloc (.cells #[.slice none 0 0,.int .i64 0,.bool false] 36)
theorem in3_blk (w:World) (x:Array Value) (y:Array Value):Disk.Blk (in3 w x y) w.heap.size 36 x∧Disk.Blk (in3 w x y) (w.heap.size+1) 40 y∧Disk.Blk (in3 w x y) (w.heap.size+2) 36 #[.slice none 0 0,.int .i64 0,.bool false]∧Below w.heap.size w (in3 w x y):=by
 refine ⟨?_,?_,?_,below_in3 w _ _ _⟩
 ·show (((w.heap.push _).push _).push _)[w.heap.size]?=some _
  rw [Array.getElem?_push,if_neg (by simp;omega),Array.getElem?_push,if_neg (by simp),Array.getElem?_push,if_pos rfl]
 ·show (((w.heap.push _).push _).push _)[w.heap.size+1]?=some _
  rw [Array.getElem?_push,if_neg (by simp),Array.getElem?_push,if_pos (by simp)]
 ·exact heap_in3 w _ _ _
theorem done_no (a:Option Addr) (n cap:Nat) (B:Int) (b:Bool) (what:Int) (hw:pickN what < 5) (h1 : -9223372036854775808≤what) (h2:what≤9223372036854775807) (a1:Option Addr) (c1:Nat) (l:List Rcd) (dn:Bool) (ef kp:Int) (w:World) (hr:Recs w a1 l) (hl:l.length≤900000) (hno:¬ okBody l) :
  Calls Tryz.prog 11 #[stV a n cap B b,deedV what a1 l.length c1 dn ef kp] w fun e w'=>e = .returned (.tuple #[stV a n cap B b,.int .i64 1])∧Below w.heap.size w w':=by
 unfold stV deedV
 have hp:=pick_any what h1 h2
 have HP:=Lib.hid hp
 have HB:=Lib.hid (in3_blk w #[.slice a n cap,.int .i64 B,.bool b] #[.int .i64 what,.slice a1 l.length c1,.bool dn,.int .i64 ef,.int .i64 kp])
 have HR:=Lib.hid (And.intro hr (And.intro hl hno))
 have HK:=Lib.hid hw
 obtain ⟨k,hk⟩:∃ k,k=pickN what:=⟨_,rfl⟩
 rw [← hk] at hp
 obtain ⟨W,hW⟩:∃ W,W=in3 w #[.slice a n cap,.int .i64 B,.bool b] #[.int .i64 what,.slice a1 l.length c1,.bool dn,.int .i64 ef,.int .i64 kp]:=⟨_,rfl⟩
 rw [← hW] at HB
 unfold in3 at hW
 clear hw h1 h2 hr hl hno
 go_enter Tryz.func11,Tryz.ntmps11
 go_wp2_with fail
 rw [← hW]
 refine (hp _).mono ?_
 rintro e w' ⟨rfl,hw'⟩
 rw [hw']
 clear hw'
 have m1:W.cell? ⟨w.heap.size+1,1,none⟩=some (.slice a1 l.length c1):=HB.out.2.1.cell 1
 have hk5:((k:Int) < 5):=by have:=HK.out;omega
 clear hp hk hW
 go_wp2_with fail
 refine (refBody_any a1 c1 l W (HR.out.1.below HB.out.2.2.2) HR.out.2.1).mono ?_
 rintro e w4 ⟨hb4,⟨hok,_⟩|⟨_,v4,rfl⟩⟩
 ·exact absurd hok HR.out.2.2
 have HS:=Lib.hid (show Disk.Blk w4 w.heap.size 36 #[.slice a n cap,.int .i64 B,.bool b]∧Disk.Blk w4 (w.heap.size+2) 36 #[.slice none 0 0,.int .i64 0,.bool false]∧Below w.heap.size w w4 from ⟨HB.out.1.but (But.of_new hb4 (S:=fun _=>False)) (fun h=>h),HB.out.2.2.1.but (But.of_new hb4 (S:=fun _=>False)) (fun h=>h),HB.out.2.2.2.trans (hb4.mono HB.out.2.2.2.size)⟩)
 obtain ⟨p1,p2,_⟩:=HS.out
 have c0:w4.cell? ⟨w.heap.size,0,none⟩=some (.slice a n cap):=p1.cell 0
 have c1':w4.cell? ⟨w.heap.size,1,none⟩=some (.int .i64 B):=p1.cell 1
 have c2:w4.cell? ⟨w.heap.size,2,none⟩=some (.bool b):=p1.cell 2
 have d0:w4.cell? ⟨w.heap.size+2,0,none⟩=some (.slice none 0 0):=p2.cell 0
 have d1:w4.cell? ⟨w.heap.size+2,1,none⟩=some (.int .i64 0):=p2.cell 1
 have d2:w4.cell? ⟨w.heap.size+2,2,none⟩=some (.bool false):=p2.cell 2
 have e0:w4.frozen? ⟨w.heap.size+2,0,none⟩=false:=p2.frozen 0
 have e1:w4.frozen? ⟨w.heap.size+2,1,none⟩=false:=p2.frozen 1
 have e2:w4.frozen? ⟨w.heap.size+2,2,none⟩=false:=p2.frozen 2
 clear p1 p2 hb4 m1 HB HR HP HK
 go_wp2
 have hF:=(((HS.out.2.1.set_ 0 (.slice a n cap)).set_ 1 (.int .i64 B)).set_ 2 (.bool b))
 refine bodyPost_ret (Rec.results_row_tmp rfl _ _ (w.heap.size+2) 36 #[.slice a n cap,.int .i64 B,.bool b] (0,0) _ rfl hF Tryz.underlying36 rfl st_size) rfl ?_
 exact ⟨rfl,below_set3 HS.out.2.2 (Nat.le_add_right _ 2) _ _ _⟩
structure DoS (w:World) (a:Option Addr) (n cap:Nat) (B:Int) (b:Bool) (d:Array Value) (V:World):Prop where
 st:Disk.Blk V w.heap.size 36 #[.slice a n cap,.int .i64 B,.bool b]
 dd:Disk.Blk V (w.heap.size+1) 40 d
 rs:Disk.Blk V (w.heap.size+2) 36 #[.slice none 0 0,.int .i64 0,.bool false]
 bl:Below w.heap.size w V
theorem blk_below {B g:Nat} {t:TypeId} {cs:Array Value} {V V':World} (h:Disk.Blk V g t cs) (hb:Below B V V') (hg:g < B):Disk.Blk V' g t cs:=h.but (But.of_below hb) (show ¬ (B≤g) by omega)
theorem DoS.size {w V:World} {a:Option Addr} {n cap:Nat} {B:Int} {b:Bool} {d:Array Value} (h:DoS w a n cap B b d V):w.heap.size+3≤V.heap.size:=h.rs.lt
theorem DoS.below {w V V':World} {a:Option Addr} {n cap:Nat} {B:Int} {b:Bool} {d:Array Value} (h:DoS w a n cap B b d V) (hb:Below (w.heap.size+3) V V'):DoS w a n cap B b d V' :=
 ⟨blk_below h.st hb (by omega),blk_below h.dd hb (by omega),blk_below h.rs hb (by omega),h.bl.trans (hb.mono (by omega))⟩
theorem DoS.new {w V V':World} {a:Option Addr} {n cap:Nat} {B:Int} {b:Bool} {d:Array Value} (h:DoS w a n cap B b d V) (hb:Below V.heap.size V V'):DoS w a n cap B b d V':=h.below (hb.mono h.size)
theorem sees_but {T:Nat→Prop} {w w':World} {size n:Nat} {v:Value} {cs:List Value} (h:Sees w size v n cs) (hb:But T w w') (hs:∀ k,v.ownBlock=some k→¬ T k):Sees w' size v n cs:=by
 rcases h with h|⟨p,c,hv,hl,hc⟩
 ·exact .inl h
 ·refine .inr ⟨p,c,hv,hl,fun j u hu=>?_⟩
  obtain ⟨h1,h2⟩:=hc j u hu
  have e:=Mem.block_add p j
  exact ⟨Nat.lt_of_lt_of_le h1 hb.size,(hb.cell (p:=p.add j) (by rw [e];exact h1) (by rw [e];exact hs _ (by rw [hv];rfl))).trans h2⟩
def lgV (g:Torn.Lg):Value := .slice g.a g.l.length g.cap
theorem lists_sees {w:World} {a:Option Addr} {ls:List Torn.Lg} {cap:Nat} (h:Lists w a ls) (hn:a=none→cap=0):Sees w 1 (.slice a ls.length cap) ls.length (ls.map lgV):=by
 rcases a with _|⟨g,off,m⟩
 ·have h0:ls=[]:=by
   rcases ls with _|⟨x,r⟩
   ·rfl
   ·obtain ⟨b,off,e,_⟩:=h.2 (by simp)
    cases e
  refine .inl ⟨?_,?_,?_⟩
  ·rw [h0,hn rfl];rfl
  ·rw [h0];rfl
  ·rw [h0];rfl
 ·refine .inr ⟨_,_,rfl,by simp,fun j u hu=>?_⟩
  have hj:j < ls.length:=by
   have:=(List.getElem?_eq_some_iff.1 hu).1
   simpa using this
  obtain ⟨b,off',e,hb,hc⟩:=h.2 (by omega)
  obtain ⟨rfl,rfl,rfl⟩:g=b∧off=off'∧m=none:=by cases e;exact ⟨rfl,rfl,rfl⟩
  have hu':lgV ls[j]=u:=by
   have:=(List.getElem?_eq_some_iff.1 hu).2
   simpa using this
  have e2:(⟨g,off,none⟩:Addr).add j=⟨g,off+j,none⟩:=by rcases j with _|j <;> simp [Addr.add]
  exact ⟨hb,by rw [e2];exact (hc j hj).trans (congrArg some hu')⟩
theorem slot_info:(Tryz.prog.info? 38).map (fun i=>(i.zero,i.size,i.bytes))=some (some (.slice none 0 0),1,24):=by kernel_rfl
theorem lists_of_own {w:World} {base:Nat} {e:TypeId} {v:Value} {ls:List Torn.Lg} (h:w.ownsRow base e 1 v ls.length (ls.map lgV)) (h0:0 < ls.length) (hr:∀ g ∈ ls,Recs w g.a g.l):∃ g2 c2,v = .slice (some ⟨g2,0,none⟩) ls.length c2∧Lists w (some ⟨g2,0,none⟩) ls∧base≤g2∧ls.length≤c2∧c2≤maxLen:=by
 rcases h.2 with ⟨hv,hn⟩|⟨g,cap,cur,hv,hg,hh,hnc,hcm,hcs,ht⟩
 ·omega
 ·subst hv
  refine ⟨g,cap,rfl,⟨hr,fun _=>⟨g,0,rfl,(h.lt g rfl).2,fun i hi=>?_⟩⟩,hg,hnc,hcm⟩
  have:=h.cellAt i (by omega)
  rw [Nat.zero_add]
  rw [this]
  simp [hi,lgV]
theorem done_yes (a:Option Addr) (cap:Nat) (ls:List Torn.Lg) (B:Int) (b:Bool) (what:Int) (hw:pickN what < 5) (h1 : -9223372036854775808≤what) (h2:what≤9223372036854775807) (a1:Option Addr) (c1:Nat) (l:List Rcd) (dn:Bool) (ef kp:Int) (w:World) (hL:Lists w a ls) (hnn:a=none→cap=0) (hn:ls.length≤1000) (hr:Recs w a1 l) (hl:l.length≤900000) (hok:okBody l) :
  Calls Tryz.prog 11 #[stV a ls.length cap B b,deedV what a1 l.length c1 dn ef kp] w fun e w'=>(∃ g2 c2,e = .returned (.tuple #[stV (some ⟨g2,0,none⟩) (ls.length+1) c2 B b,.int .i64 0])∧Lists w' (some ⟨g2,0,none⟩) (ls++[⟨a1,c1,l⟩])∧w.heap.size≤g2∧ls.length+1≤c2∧c2≤maxLen)∧Below w.heap.size w w':=by
 unfold stV deedV
 have hp:=pick_any what h1 h2
 have HB:=Lib.hid (in3_blk w #[.slice a ls.length cap,.int .i64 B,.bool b] #[.int .i64 what,.slice a1 l.length c1,.bool dn,.int .i64 ef,.int .i64 kp])
 have HR:=Lib.hid (And.intro hr (And.intro hl hok))
 have HLs:=Lib.hid (And.intro hL hn)
 have HK:=Lib.hid hw
 obtain ⟨k,hk⟩:∃ k,k=pickN what:=⟨_,rfl⟩
 rw [← hk] at hp
 obtain ⟨W,hW⟩:∃ W,W=in3 w #[.slice a ls.length cap,.int .i64 B,.bool b] #[.int .i64 what,.slice a1 l.length c1,.bool dn,.int .i64 ef,.int .i64 kp]:=⟨_,rfl⟩
 rw [← hW] at HB
 unfold in3 at hW
 clear hw h1 h2 hr hl hok hL hn
 go_enter Tryz.func11,Tryz.ntmps11
 go_wp2_with fail
 rw [← hW]
 refine (hp _).mono ?_
 rintro e w' ⟨rfl,hw'⟩
 rw [hw']
 clear hw'
 have m1:W.cell? ⟨w.heap.size+1,1,none⟩=some (.slice a1 l.length c1):=HB.out.2.1.cell 1
 have hk5:((k:Int) < 5):=by have:=HK.out;omega
 clear hp hk hW
 go_wp2_with fail
 refine (refBody_any a1 c1 l W (HR.out.1.below HB.out.2.2.2) HR.out.2.1).mono ?_
 rintro e w4 ⟨hb4,⟨_,v4,rfl,_⟩|⟨hno,_⟩⟩
 rotate_left
 ·exact absurd HR.out.2.2 hno
 have HS0:=Lib.hid (show DoS w a ls.length cap B b #[.int .i64 what,.slice a1 l.length c1,.bool dn,.int .i64 ef,.int .i64 kp] w4 from ⟨HB.out.1.but (But.of_new hb4 (S:=fun _=>False)) (fun h=>h),HB.out.2.1.but (But.of_new hb4 (S:=fun _=>False)) (fun h=>h),HB.out.2.2.1.but (But.of_new hb4 (S:=fun _=>False)) (fun h=>h),HB.out.2.2.2.trans (hb4.mono HB.out.2.2.2.size)⟩)
 have HA:=Lib.hid hnn
 obtain ⟨i1,hi1,hy0,hy1,hy2⟩:=info_parts slot_info
 clear hb4 m1 HB HK hk5 hnn
 go_wp2_with fail
 refine Late.region_goes (fun V=>DoS w a ls.length cap B b #[.int .i64 what,.slice a1 l.length c1,.bool dn,.int .i64 ef,.int .i64 kp] V) (fun j=>j == 9) (by kernel_rfl) ?_ (fun hH=>?_)
 ·exact HS0.out.new ((Below.refl _ w4).drew)
 refine Late.tk 1 ?_ ?_ hH ?_;rotate_left 2
 refine Late.tk 4 ?_ ?_ hH ?_;rotate_left 2
 refine Late.tk 2 ?_ ?_ hH ?_;rotate_left 2
 refine Late.tk 5 ?_ ?_ hH ?_;rotate_left 2
 rotate_left
 any_goals (intro wy hSw;(try dsimp only at hSw);obtain ⟨q1,q2,q3,q4⟩:=hSw;have k0:wy.cell? ⟨w.heap.size,0,none⟩=some _:=q1.cell 0;have k1:wy.cell? ⟨w.heap.size+1,1,none⟩=some _:=q2.cell 1;go_simp;try (with_reducible rfl))
 try simp only [Act.put,List.setIfInBounds_toArray,List.set_cons_zero,List.set_cons_succ]
 obtain ⟨wA,hwA⟩:∃ V,V=w4.drew:=⟨_,rfl⟩
 have HSA:=Lib.hid (show DoS w a ls.length cap B b #[.int .i64 what,.slice a1 l.length c1,.bool dn,.int .i64 ef,.int .i64 kp] wA from by rw [hwA];exact HS0.out.new ((Below.refl _ w4).drew))
 rw [← hwA]
 clear hwA HS0
 have HS:=HSA
 clear HSA
 refine Late.Goes.two (i:=0) (j:=6) (by kernel_rfl) (by simp only [List.getElem?_toArray,List.getElem?_cons_succ,List.getElem?_cons_zero];rfl) (by simp only [List.getElem?_toArray,List.getElem?_cons_succ,List.getElem?_cons_zero];rfl) (fun K hK=>?_) (fun K hK=>?_) <;> clear hH
 ·go_simp
  have hal:=(Below.refl wA.heap.size wA).alloc (Nat.le_refl _) (.cells #[] 38)
  have HS':=Lib.hid (HS.out.new hal)
  have HO:=Lib.hid (World.ownsRow_lit (base:=w.heap.size+3) (e:=38) (size:=1) wA #[] 0 HS.out.size (by unfold maxLen;omega) rfl)
  have HLTwA:=Lib.hid (show wA.heap.size < (wA.alloc (.cells #[] 38)).heap.size by simp)
  obtain ⟨wB,hV⟩:∃ V,V=wA.alloc (.cells #[] 38):=⟨_,rfl⟩
  rw [← hV] at HS' HO HLTwA ⊢
  clear hal hV HS
  have HS:=HS'
  clear HS'
  refine hK.out _ _ ?_ (fun hH=>?_)
  ·exact fun _=>HS.out
  clear hK K
  have hH:=hH rfl
  try simp only [Act.put,List.setIfInBounds_toArray,List.set_cons_zero,List.set_cons_succ]
  refine Late.Goes.two (i:=3) (j:=6) (by kernel_rfl) (by simp only [List.getElem?_toArray,List.getElem?_cons_succ,List.getElem?_cons_zero];rfl) (by simp only [List.getElem?_toArray,List.getElem?_cons_succ,List.getElem?_cons_zero];rfl) (fun K hK=>?_) (fun K hK=>?_) <;> clear hH
  ·refine step_append_onto rfl (.tmp 23) (.tmp 25) _ rfl (w.heap.size+3) 38 i1 _ 1 24 Tryz.underlying34 hi1 hy0 hy1 hy2 rfl (by omega) _ 0 [] rfl HO.out _ ls.length (ls.map lgV) rfl (lists_sees (HLs.out.1.below HS.out.bl) HA.out) (by intro u hu;obtain ⟨x,_,rfl⟩:=List.mem_map.1 hu;rfl) (by have:=HLs.out.2;unfold maxLen;omega) (by have:=HLs.out.2;omega) HS.out.size ?_
   intro v26 wC ho hon
   rw [Nat.zero_add,List.nil_append] at ho
   have HS':=Lib.hid (HS.out.below (hon.below HO.out HS.out.size))
   have HO':=Lib.hid ho
   clear ho hon HS HO
   have HS:=HS'
   clear HS'
   have HO:=HO'
   clear HO'
   refine hK.out _ _ ?_ (fun hH=>?_)
   ·exact fun _=>HS.out
   clear hK K
   have hH:=hH rfl
   try simp only [Act.put,List.setIfInBounds_toArray,List.set_cons_zero,List.set_cons_succ]
   refine Late.Goes.one (i:=6) (by kernel_rfl) (by simp only [List.getElem?_toArray,List.getElem?_cons_succ,List.getElem?_cons_zero];rfl) (fun K hK=>?_)
   clear hH
   go_simp
   have hal:=(Below.refl wC.heap.size wC).alloc (Nat.le_refl _) (.cells #[.slice a1 l.length c1] 38)
   have HS':=Lib.hid (HS.out.new hal)
   have HY:=Lib.hid (sees_one wC (.slice a1 l.length c1) 38 (0,0))
   have HO':=Lib.hid (ownsRow_but HO.out (But.of_new hal (S:=fun _=>False)) (fun _ _ h=>h))
   have HLTwC:=Lib.hid (show wC.heap.size < (wC.alloc (.cells #[.slice a1 l.length c1] 38)).heap.size by simp)
   obtain ⟨wD,hV⟩:∃ V,V=wC.alloc (.cells #[.slice a1 l.length c1] 38):=⟨_,rfl⟩
   rw [← hV] at HS' HY HLTwC HO' ⊢
   clear hal hV HS HO
   have HS:=HS'
   clear HS'
   have HO:=HO'
   clear HO'
   refine hK.out _ _ ?_ (fun hH=>?_)
   ·exact fun _=>HS.out
   clear hK K
   have hH:=hH rfl
   try simp only [Act.put,List.setIfInBounds_toArray,List.set_cons_zero,List.set_cons_succ]
   refine Late.Goes.one (i:=7) (by kernel_rfl) (by simp only [List.getElem?_toArray,List.getElem?_cons_succ,List.getElem?_cons_zero];rfl) (fun K hK=>?_)
   clear hH
   refine step_append_onto rfl (.tmp 26) (.tmp 29) _ rfl (w.heap.size+3) 38 i1 _ 1 24 Tryz.underlying34 hi1 hy0 hy1 hy2 rfl (by omega) _ ls.length (ls.map lgV) rfl HO.out _ 1 [.slice a1 l.length c1] rfl HY.out (by intro u hu;rw [List.mem_singleton.1 hu];rfl) (by have:=HLs.out.2;unfold maxLen;omega) (by have:=HLs.out.2;omega) HS.out.size ?_
   intro v30 w7 ho7 hon7
   have HS7:=Lib.hid (HS.out.below (hon7.below HO.out HS.out.size))
   have hm:ls.map lgV++[Value.slice a1 l.length c1]=(ls++[(⟨a1,c1,l⟩:Torn.Lg)]).map lgV:=by simp [lgV]
   have hlen7:(ls++[(⟨a1,c1,l⟩:Torn.Lg)]).length=ls.length+1:=by simp
   rw [hm,← hlen7] at ho7
   have hrs:=fun (V:World) (hb:Below w.heap.size w V) (g:Torn.Lg) (hg:g ∈ ls++[(⟨a1,c1,l⟩:Torn.Lg)])=>(show Recs V g.a g.l from by
    rcases List.mem_append.1 hg with h1|h1
    ·exact (HLs.out.1.1 g h1).below hb
    ·rw [List.mem_singleton.1 h1];exact HR.out.1.below hb)
   obtain ⟨g2,c2,rfl,_,hg2,hlc,hcm⟩:=lists_of_own ho7 (by simp) (hrs w7 HS7.out.bl)
   have HE:=Lib.hid (And.intro ho7 (And.intro hg2 (And.intro hrs (And.intro hlc hcm))))
   have HLE:=Lib.hid hlen7
   rw [hlen7]
   clear hg2 hlc hcm hrs ho7 hon7 HO HY HS hm hlen7
   refine hK.out _ _ ?_ (fun hH=>?_)
   ·exact fun _=>HS7.out
   clear hK K
   have hH:=hH rfl
   try simp only [Act.put,List.setIfInBounds_toArray,List.set_cons_zero,List.set_cons_succ]
   refine Late.tk 8 ?_ ?_ hH ?_;rotate_left 2
   rotate_left
   any_goals (intro wy hSw;(try dsimp only at hSw);obtain ⟨q1,q2,q3,q4⟩:=hSw;have k0:wy.cell? ⟨w.heap.size,0,none⟩=some _:=q1.cell 0;have k1:wy.cell? ⟨w.heap.size+1,1,none⟩=some _:=q2.cell 1;go_simp;try (with_reducible rfl))
   try simp only [Act.put,List.setIfInBounds_toArray,List.set_cons_zero,List.set_cons_succ]
   refine Late.Goes.one (i:=9) (by kernel_rfl) (by simp only [List.getElem?_toArray,List.getElem?_cons_succ,List.getElem?_cons_zero];rfl) (fun K hK=>?_)
   clear hH
   obtain ⟨q1,q2,q3,q4⟩:=HS7.out
   have k0:w7.frozen? ⟨w.heap.size,0,none⟩=false:=q1.frozen 0
   have k1:w7.cell? ⟨w.heap.size,0,none⟩=some _:=q1.cell 0
   clear q2 q3 q4
   go_simp
   have HQ:=Lib.hid q1
   clear k0 k1 q1
   refine hK.out _ _ ?_ (fun _=>?_)
   ·exact fun h=>by cases h
   clear hK K
   try simp only [Act.put,List.setIfInBounds_toArray,List.set_cons_zero,List.set_cons_succ]
   refine Late.Goes.done (by kernel_rfl) ?_ _
   have hx0:=HQ.out.set_ 0 (.slice (some ⟨g2,0,none⟩) (ls.length+1) c2)
   have hbt:=Disk.but_set w7 w.heap.size 0 (.slice (some ⟨g2,0,none⟩) (ls.length+1) c2)
   have hx2:=HS7.out.rs.but hbt (show ¬ (w.heap.size+2=w.heap.size) by omega)
   have hbw:Below w.heap.size w (w7.setCell ⟨w.heap.size,0,none⟩ (.slice (some ⟨g2,0,none⟩) (ls.length+1) c2)):=HS7.out.bl.setCell (Nat.le_refl _) _
   have hob:=ownsRow_but HE.out.1 hbt (fun k hk hk2=>by have:=(HE.out.1.lt k hk).1;omega)
   obtain ⟨W5,hW5⟩:∃ W,W=w7.setCell ⟨w.heap.size,0,none⟩ (.slice (some ⟨g2,0,none⟩) (ls.length+1) c2):=⟨_,rfl⟩
   rw [← hW5] at hx0 hx2 hbw hob ⊢
   have HF:=Lib.hid (And.intro hx2 (And.intro hbw hob))
   have c0:W5.cell? ⟨w.heap.size,0,none⟩=some (.slice (some ⟨g2,0,none⟩) (ls.length+1) c2):=hx0.cell 0
   have c1':W5.cell? ⟨w.heap.size,1,none⟩=some (.int .i64 B):=hx0.cell 1
   have c2':W5.cell? ⟨w.heap.size,2,none⟩=some (.bool b):=hx0.cell 2
   have d0:W5.cell? ⟨w.heap.size+2,0,none⟩=some (.slice none 0 0):=hx2.cell 0
   have d1:W5.cell? ⟨w.heap.size+2,1,none⟩=some (.int .i64 0):=hx2.cell 1
   have d2:W5.cell? ⟨w.heap.size+2,2,none⟩=some (.bool false):=hx2.cell 2
   have e0:W5.frozen? ⟨w.heap.size+2,0,none⟩=false:=hx2.frozen 0
   have e1:W5.frozen? ⟨w.heap.size+2,1,none⟩=false:=hx2.frozen 1
   have e2:W5.frozen? ⟨w.heap.size+2,2,none⟩=false:=hx2.frozen 2
   clear hW5 hx0 hx2 hbw hob hbt HQ HS7
   go_wp2
   have hF:=((HF.out.1.set_ 0 (.slice (some ⟨g2,0,none⟩) (ls.length+1) c2)).set_ 1 (.int .i64 B)).set_ 2 (.bool b)
   refine bodyPost_ret (Rec.results_row_tmp rfl _ _ (w.heap.size+2) 36 #[.slice (some ⟨g2,0,none⟩) (ls.length+1) c2,.int .i64 B,.bool b] (0,0) _ rfl hF Tryz.underlying36 rfl st_size) rfl ?_
   have hbf:=below_set3 HF.out.2.1 (Nat.le_add_right _ 2) (.slice (some ⟨g2,0,none⟩) (ls.length+1) c2) (.int .i64 B) (.bool b)
   have hG:∀ (W:World) (k:Nat) (u:Value),W.ownsRow (w.heap.size+3) 38 1 (.slice (some ⟨g2,0,none⟩) (ls++[(⟨a1,c1,l⟩:Torn.Lg)]).length c2) (ls++[(⟨a1,c1,l⟩:Torn.Lg)]).length ((ls++[(⟨a1,c1,l⟩:Torn.Lg)]).map lgV)→(W.setCell ⟨w.heap.size+2,k,none⟩ u).ownsRow (w.heap.size+3) 38 1 (.slice (some ⟨g2,0,none⟩) (ls++[(⟨a1,c1,l⟩:Torn.Lg)]).length c2) (ls++[(⟨a1,c1,l⟩:Torn.Lg)]).length ((ls++[(⟨a1,c1,l⟩:Torn.Lg)]).map lgV):=fun W k u ho=>ownsRow_but ho (Disk.but_set W (w.heap.size+2) k u) (fun j hj hj2=>by have:=(ho.lt j hj).1;omega)
   obtain ⟨g3,c3,h3,hL,_,_,_⟩:=lists_of_own (hG _ 2 (.bool b) (hG _ 1 (.int .i64 B) (hG _ 0 (.slice (some ⟨g2,0,none⟩) (ls.length+1) c2) HF.out.2.2))) (by simp) (HE.out.2.2.1 _ hbf)
   obtain ⟨rfl,rfl⟩:g2=g3∧c2=c3:=by cases h3;exact ⟨rfl,rfl⟩
   exact ⟨⟨g2,c2,rfl,hL,by have:=HE.out.2.1;omega,by have:=HE.out.2.2.2.1;have:=HLE.out;omega,HE.out.2.2.2.2⟩,hbf⟩
  ·go_simp
   have hal:=(Below.refl wB.heap.size wB).alloc (Nat.le_refl _) (.cells #[.slice a1 l.length c1] 38)
   have HS':=Lib.hid (HS.out.new hal)
   have HY:=Lib.hid (sees_one wB (.slice a1 l.length c1) 38 (0,0))
   have HO':=Lib.hid (ownsRow_but HO.out (But.of_new hal (S:=fun _=>False)) (fun _ _ h=>h))
   have HLTwB:=Lib.hid (show wB.heap.size < (wB.alloc (.cells #[.slice a1 l.length c1] 38)).heap.size by simp)
   obtain ⟨wC,hV⟩:∃ V,V=wB.alloc (.cells #[.slice a1 l.length c1] 38):=⟨_,rfl⟩
   rw [← hV] at HS' HY HLTwB HO' ⊢
   clear hal hV HS HO
   have HS:=HS'
   clear HS'
   have HO:=HO'
   clear HO'
   refine hK.out _ _ ?_ (fun hH=>?_)
   ·exact fun _=>HS.out
   clear hK K
   have hH:=hH rfl
   try simp only [Act.put,List.setIfInBounds_toArray,List.set_cons_zero,List.set_cons_succ]
   refine Late.Goes.one (i:=3) (by kernel_rfl) (by simp only [List.getElem?_toArray,List.getElem?_cons_succ,List.getElem?_cons_zero];rfl) (fun K hK=>?_)
   clear hH
   refine step_append_onto rfl (.tmp 23) (.tmp 25) _ rfl (w.heap.size+3) 38 i1 _ 1 24 Tryz.underlying34 hi1 hy0 hy1 hy2 rfl (by omega) _ 0 [] rfl HO.out _ ls.length (ls.map lgV) rfl (lists_sees (HLs.out.1.below HS.out.bl) HA.out) (by intro u hu;obtain ⟨x,_,rfl⟩:=List.mem_map.1 hu;rfl) (by have:=HLs.out.2;unfold maxLen;omega) (by have:=HLs.out.2;omega) HS.out.size ?_
   intro v26 wD ho hon
   rw [Nat.zero_add,List.nil_append] at ho
   have HS':=Lib.hid (HS.out.below (hon.below HO.out HS.out.size))
   have HO':=Lib.hid ho
   have HY':=Lib.hid (sees_but HY.out hon.but (fun k hk e=>by have h1:wB.heap.size=wA.heap.size:=Option.some.inj (hk.trans e);have:=HLTwA.out;omega))
   clear ho hon HS HO HY
   have HS:=HS'
   clear HS'
   have HO:=HO'
   clear HO'
   have HY:=HY'
   clear HY'
   refine hK.out _ _ ?_ (fun hH=>?_)
   ·exact fun _=>HS.out
   clear hK K
   have hH:=hH rfl
   try simp only [Act.put,List.setIfInBounds_toArray,List.set_cons_zero,List.set_cons_succ]
   refine Late.Goes.one (i:=7) (by kernel_rfl) (by simp only [List.getElem?_toArray,List.getElem?_cons_succ,List.getElem?_cons_zero];rfl) (fun K hK=>?_)
   clear hH
   refine step_append_onto rfl (.tmp 26) (.tmp 29) _ rfl (w.heap.size+3) 38 i1 _ 1 24 Tryz.underlying34 hi1 hy0 hy1 hy2 rfl (by omega) _ ls.length (ls.map lgV) rfl HO.out _ 1 [.slice a1 l.length c1] rfl HY.out (by intro u hu;rw [List.mem_singleton.1 hu];rfl) (by have:=HLs.out.2;unfold maxLen;omega) (by have:=HLs.out.2;omega) HS.out.size ?_
   intro v30 w7 ho7 hon7
   have HS7:=Lib.hid (HS.out.below (hon7.below HO.out HS.out.size))
   have hm:ls.map lgV++[Value.slice a1 l.length c1]=(ls++[(⟨a1,c1,l⟩:Torn.Lg)]).map lgV:=by simp [lgV]
   have hlen7:(ls++[(⟨a1,c1,l⟩:Torn.Lg)]).length=ls.length+1:=by simp
   rw [hm,← hlen7] at ho7
   have hrs:=fun (V:World) (hb:Below w.heap.size w V) (g:Torn.Lg) (hg:g ∈ ls++[(⟨a1,c1,l⟩:Torn.Lg)])=>(show Recs V g.a g.l from by
    rcases List.mem_append.1 hg with h1|h1
    ·exact (HLs.out.1.1 g h1).below hb
    ·rw [List.mem_singleton.1 h1];exact HR.out.1.below hb)
   obtain ⟨g2,c2,rfl,_,hg2,hlc,hcm⟩:=lists_of_own ho7 (by simp) (hrs w7 HS7.out.bl)
   have HE:=Lib.hid (And.intro ho7 (And.intro hg2 (And.intro hrs (And.intro hlc hcm))))
   have HLE:=Lib.hid hlen7
   rw [hlen7]
   clear hg2 hlc hcm hrs ho7 hon7 HO HY HS hm hlen7
   refine hK.out _ _ ?_ (fun hH=>?_)
   ·exact fun _=>HS7.out
   clear hK K
   have hH:=hH rfl
   try simp only [Act.put,List.setIfInBounds_toArray,List.set_cons_zero,List.set_cons_succ]
   refine Late.tk 8 ?_ ?_ hH ?_;rotate_left 2
   rotate_left
   any_goals (intro wy hSw;(try dsimp only at hSw);obtain ⟨q1,q2,q3,q4⟩:=hSw;have k0:wy.cell? ⟨w.heap.size,0,none⟩=some _:=q1.cell 0;have k1:wy.cell? ⟨w.heap.size+1,1,none⟩=some _:=q2.cell 1;go_simp;try (with_reducible rfl))
   try simp only [Act.put,List.setIfInBounds_toArray,List.set_cons_zero,List.set_cons_succ]
   refine Late.Goes.one (i:=9) (by kernel_rfl) (by simp only [List.getElem?_toArray,List.getElem?_cons_succ,List.getElem?_cons_zero];rfl) (fun K hK=>?_)
   clear hH
   obtain ⟨q1,q2,q3,q4⟩:=HS7.out
   have k0:w7.frozen? ⟨w.heap.size,0,none⟩=false:=q1.frozen 0
   have k1:w7.cell? ⟨w.heap.size,0,none⟩=some _:=q1.cell 0
   clear q2 q3 q4
   go_simp
   have HQ:=Lib.hid q1
   clear k0 k1 q1
   refine hK.out _ _ ?_ (fun _=>?_)
   ·exact fun h=>by cases h
   clear hK K
   try simp only [Act.put,List.setIfInBounds_toArray,List.set_cons_zero,List.set_cons_succ]
   refine Late.Goes.done (by kernel_rfl) ?_ _
   have hx0:=HQ.out.set_ 0 (.slice (some ⟨g2,0,none⟩) (ls.length+1) c2)
   have hbt:=Disk.but_set w7 w.heap.size 0 (.slice (some ⟨g2,0,none⟩) (ls.length+1) c2)
   have hx2:=HS7.out.rs.but hbt (show ¬ (w.heap.size+2=w.heap.size) by omega)
   have hbw:Below w.heap.size w (w7.setCell ⟨w.heap.size,0,none⟩ (.slice (some ⟨g2,0,none⟩) (ls.length+1) c2)):=HS7.out.bl.setCell (Nat.le_refl _) _
   have hob:=ownsRow_but HE.out.1 hbt (fun k hk hk2=>by have:=(HE.out.1.lt k hk).1;omega)
   obtain ⟨W5,hW5⟩:∃ W,W=w7.setCell ⟨w.heap.size,0,none⟩ (.slice (some ⟨g2,0,none⟩) (ls.length+1) c2):=⟨_,rfl⟩
   rw [← hW5] at hx0 hx2 hbw hob ⊢
   have HF:=Lib.hid (And.intro hx2 (And.intro hbw hob))
   have c0:W5.cell? ⟨w.heap.size,0,none⟩=some (.slice (some ⟨g2,0,none⟩) (ls.length+1) c2):=hx0.cell 0
   have c1':W5.cell? ⟨w.heap.size,1,none⟩=some (.int .i64 B):=hx0.cell 1
   have c2':W5.cell? ⟨w.heap.size,2,none⟩=some (.bool b):=hx0.cell 2
   have d0:W5.cell? ⟨w.heap.size+2,0,none⟩=some (.slice none 0 0):=hx2.cell 0
   have d1:W5.cell? ⟨w.heap.size+2,1,none⟩=some (.int .i64 0):=hx2.cell 1
   have d2:W5.cell? ⟨w.heap.size+2,2,none⟩=some (.bool false):=hx2.cell 2
   have e0:W5.frozen? ⟨w.heap.size+2,0,none⟩=false:=hx2.frozen 0
   have e1:W5.frozen? ⟨w.heap.size+2,1,none⟩=false:=hx2.frozen 1
   have e2:W5.frozen? ⟨w.heap.size+2,2,none⟩=false:=hx2.frozen 2
   clear hW5 hx0 hx2 hbw hob hbt HQ HS7
   go_wp2
   have hF:=((HF.out.1.set_ 0 (.slice (some ⟨g2,0,none⟩) (ls.length+1) c2)).set_ 1 (.int .i64 B)).set_ 2 (.bool b)
   refine bodyPost_ret (Rec.results_row_tmp rfl _ _ (w.heap.size+2) 36 #[.slice (some ⟨g2,0,none⟩) (ls.length+1) c2,.int .i64 B,.bool b] (0,0) _ rfl hF Tryz.underlying36 rfl st_size) rfl ?_
   have hbf:=below_set3 HF.out.2.1 (Nat.le_add_right _ 2) (.slice (some ⟨g2,0,none⟩) (ls.length+1) c2) (.int .i64 B) (.bool b)
   have hG:∀ (W:World) (k:Nat) (u:Value),W.ownsRow (w.heap.size+3) 38 1 (.slice (some ⟨g2,0,none⟩) (ls++[(⟨a1,c1,l⟩:Torn.Lg)]).length c2) (ls++[(⟨a1,c1,l⟩:Torn.Lg)]).length ((ls++[(⟨a1,c1,l⟩:Torn.Lg)]).map lgV)→(W.setCell ⟨w.heap.size+2,k,none⟩ u).ownsRow (w.heap.size+3) 38 1 (.slice (some ⟨g2,0,none⟩) (ls++[(⟨a1,c1,l⟩:Torn.Lg)]).length c2) (ls++[(⟨a1,c1,l⟩:Torn.Lg)]).length ((ls++[(⟨a1,c1,l⟩:Torn.Lg)]).map lgV):=fun W k u ho=>ownsRow_but ho (Disk.but_set W (w.heap.size+2) k u) (fun j hj hj2=>by have:=(ho.lt j hj).1;omega)
   obtain ⟨g3,c3,h3,hL,_,_,_⟩:=lists_of_own (hG _ 2 (.bool b) (hG _ 1 (.int .i64 B) (hG _ 0 (.slice (some ⟨g2,0,none⟩) (ls.length+1) c2) HF.out.2.2))) (by simp) (HE.out.2.2.1 _ hbf)
   obtain ⟨rfl,rfl⟩:g2=g3∧c2=c3:=by cases h3;exact ⟨rfl,rfl⟩
   exact ⟨⟨g2,c2,rfl,hL,by have:=HE.out.2.1;omega,by have:=HE.out.2.2.2.1;have:=HLE.out;omega,HE.out.2.2.2.2⟩,hbf⟩
 ·go_simp
  have hal:=(Below.refl wA.heap.size wA).alloc (Nat.le_refl _) (.cells #[.slice a1 l.length c1] 38)
  have HS':=Lib.hid (HS.out.new hal)
  have HY:=Lib.hid (sees_one wA (.slice a1 l.length c1) 38 (0,0))
  have HLTwA:=Lib.hid (show wA.heap.size < (wA.alloc (.cells #[.slice a1 l.length c1] 38)).heap.size by simp)
  obtain ⟨wB,hV⟩:∃ V,V=wA.alloc (.cells #[.slice a1 l.length c1] 38):=⟨_,rfl⟩
  rw [← hV] at HS' HY HLTwA ⊢
  clear hal hV HS
  have HS:=HS'
  clear HS'
  refine hK.out _ _ ?_ (fun hH=>?_)
  ·exact fun _=>HS.out
  clear hK K
  have hH:=hH rfl
  try simp only [Act.put,List.setIfInBounds_toArray,List.set_cons_zero,List.set_cons_succ]
  refine Late.Goes.one (i:=0) (by kernel_rfl) (by simp only [List.getElem?_toArray,List.getElem?_cons_succ,List.getElem?_cons_zero];rfl) (fun K hK=>?_)
  clear hH
  go_simp
  have hal:=(Below.refl wB.heap.size wB).alloc (Nat.le_refl _) (.cells #[] 38)
  have HS':=Lib.hid (HS.out.new hal)
  have HO:=Lib.hid (World.ownsRow_lit (base:=w.heap.size+3) (e:=38) (size:=1) wB #[] 0 HS.out.size (by unfold maxLen;omega) rfl)
  have HY':=Lib.hid (sees_but HY.out (But.of_new hal (S:=fun _=>False)) (fun _ _ h=>h))
  have HLTwB:=Lib.hid (show wB.heap.size < (wB.alloc (.cells #[] 38)).heap.size by simp)
  obtain ⟨wC,hV⟩:∃ V,V=wB.alloc (.cells #[] 38):=⟨_,rfl⟩
  rw [← hV] at HS' HO HLTwB HY' ⊢
  clear hal hV HS HY
  have HS:=HS'
  clear HS'
  have HY:=HY'
  clear HY'
  refine hK.out _ _ ?_ (fun hH=>?_)
  ·exact fun _=>HS.out
  clear hK K
  have hH:=hH rfl
  try simp only [Act.put,List.setIfInBounds_toArray,List.set_cons_zero,List.set_cons_succ]
  refine Late.Goes.one (i:=3) (by kernel_rfl) (by simp only [List.getElem?_toArray,List.getElem?_cons_succ,List.getElem?_cons_zero];rfl) (fun K hK=>?_)
  clear hH
  refine step_append_onto rfl (.tmp 23) (.tmp 25) _ rfl (w.heap.size+3) 38 i1 _ 1 24 Tryz.underlying34 hi1 hy0 hy1 hy2 rfl (by omega) _ 0 [] rfl HO.out _ ls.length (ls.map lgV) rfl (lists_sees (HLs.out.1.below HS.out.bl) HA.out) (by intro u hu;obtain ⟨x,_,rfl⟩:=List.mem_map.1 hu;rfl) (by have:=HLs.out.2;unfold maxLen;omega) (by have:=HLs.out.2;omega) HS.out.size ?_
  intro v26 wD ho hon
  rw [Nat.zero_add,List.nil_append] at ho
  have HS':=Lib.hid (HS.out.below (hon.below HO.out HS.out.size))
  have HO':=Lib.hid ho
  have HY':=Lib.hid (sees_but HY.out hon.but (fun k hk e=>by have h1:wA.heap.size=wB.heap.size:=Option.some.inj (hk.trans e);have:=HLTwA.out;omega))
  clear ho hon HS HO HY
  have HS:=HS'
  clear HS'
  have HO:=HO'
  clear HO'
  have HY:=HY'
  clear HY'
  refine hK.out _ _ ?_ (fun hH=>?_)
  ·exact fun _=>HS.out
  clear hK K
  have hH:=hH rfl
  try simp only [Act.put,List.setIfInBounds_toArray,List.set_cons_zero,List.set_cons_succ]
  refine Late.Goes.one (i:=7) (by kernel_rfl) (by simp only [List.getElem?_toArray,List.getElem?_cons_succ,List.getElem?_cons_zero];rfl) (fun K hK=>?_)
  clear hH
  refine step_append_onto rfl (.tmp 26) (.tmp 29) _ rfl (w.heap.size+3) 38 i1 _ 1 24 Tryz.underlying34 hi1 hy0 hy1 hy2 rfl (by omega) _ ls.length (ls.map lgV) rfl HO.out _ 1 [.slice a1 l.length c1] rfl HY.out (by intro u hu;rw [List.mem_singleton.1 hu];rfl) (by have:=HLs.out.2;unfold maxLen;omega) (by have:=HLs.out.2;omega) HS.out.size ?_
  intro v30 w7 ho7 hon7
  have HS7:=Lib.hid (HS.out.below (hon7.below HO.out HS.out.size))
  have hm:ls.map lgV++[Value.slice a1 l.length c1]=(ls++[(⟨a1,c1,l⟩:Torn.Lg)]).map lgV:=by simp [lgV]
  have hlen7:(ls++[(⟨a1,c1,l⟩:Torn.Lg)]).length=ls.length+1:=by simp
  rw [hm,← hlen7] at ho7
  have hrs:=fun (V:World) (hb:Below w.heap.size w V) (g:Torn.Lg) (hg:g ∈ ls++[(⟨a1,c1,l⟩:Torn.Lg)])=>(show Recs V g.a g.l from by
   rcases List.mem_append.1 hg with h1|h1
   ·exact (HLs.out.1.1 g h1).below hb
   ·rw [List.mem_singleton.1 h1];exact HR.out.1.below hb)
  obtain ⟨g2,c2,rfl,_,hg2,hlc,hcm⟩:=lists_of_own ho7 (by simp) (hrs w7 HS7.out.bl)
  have HE:=Lib.hid (And.intro ho7 (And.intro hg2 (And.intro hrs (And.intro hlc hcm))))
  have HLE:=Lib.hid hlen7
  rw [hlen7]
  clear hg2 hlc hcm hrs ho7 hon7 HO HY HS hm hlen7
  refine hK.out _ _ ?_ (fun hH=>?_)
  ·exact fun _=>HS7.out
  clear hK K
  have hH:=hH rfl
  try simp only [Act.put,List.setIfInBounds_toArray,List.set_cons_zero,List.set_cons_succ]
  refine Late.tk 8 ?_ ?_ hH ?_;rotate_left 2
  rotate_left
  any_goals (intro wy hSw;(try dsimp only at hSw);obtain ⟨q1,q2,q3,q4⟩:=hSw;have k0:wy.cell? ⟨w.heap.size,0,none⟩=some _:=q1.cell 0;have k1:wy.cell? ⟨w.heap.size+1,1,none⟩=some _:=q2.cell 1;go_simp;try (with_reducible rfl))
  try simp only [Act.put,List.setIfInBounds_toArray,List.set_cons_zero,List.set_cons_succ]
  refine Late.Goes.one (i:=9) (by kernel_rfl) (by simp only [List.getElem?_toArray,List.getElem?_cons_succ,List.getElem?_cons_zero];rfl) (fun K hK=>?_)
  clear hH
  obtain ⟨q1,q2,q3,q4⟩:=HS7.out
  have k0:w7.frozen? ⟨w.heap.size,0,none⟩=false:=q1.frozen 0
  have k1:w7.cell? ⟨w.heap.size,0,none⟩=some _:=q1.cell 0
  clear q2 q3 q4
  go_simp
  have HQ:=Lib.hid q1
  clear k0 k1 q1
  refine hK.out _ _ ?_ (fun _=>?_)
  ·exact fun h=>by cases h
  clear hK K
  try simp only [Act.put,List.setIfInBounds_toArray,List.set_cons_zero,List.set_cons_succ]
  refine Late.Goes.done (by kernel_rfl) ?_ _
  have hx0:=HQ.out.set_ 0 (.slice (some ⟨g2,0,none⟩) (ls.length+1) c2)
  have hbt:=Disk.but_set w7 w.heap.size 0 (.slice (some ⟨g2,0,none⟩) (ls.length+1) c2)
  have hx2:=HS7.out.rs.but hbt (show ¬ (w.heap.size+2=w.heap.size) by omega)
  have hbw:Below w.heap.size w (w7.setCell ⟨w.heap.size,0,none⟩ (.slice (some ⟨g2,0,none⟩) (ls.length+1) c2)):=HS7.out.bl.setCell (Nat.le_refl _) _
  have hob:=ownsRow_but HE.out.1 hbt (fun k hk hk2=>by have:=(HE.out.1.lt k hk).1;omega)
  obtain ⟨W5,hW5⟩:∃ W,W=w7.setCell ⟨w.heap.size,0,none⟩ (.slice (some ⟨g2,0,none⟩) (ls.length+1) c2):=⟨_,rfl⟩
  rw [← hW5] at hx0 hx2 hbw hob ⊢
  have HF:=Lib.hid (And.intro hx2 (And.intro hbw hob))
  have c0:W5.cell? ⟨w.heap.size,0,none⟩=some (.slice (some ⟨g2,0,none⟩) (ls.length+1) c2):=hx0.cell 0
  have c1':W5.cell? ⟨w.heap.size,1,none⟩=some (.int .i64 B):=hx0.cell 1
  have c2':W5.cell? ⟨w.heap.size,2,none⟩=some (.bool b):=hx0.cell 2
  have d0:W5.cell? ⟨w.heap.size+2,0,none⟩=some (.slice none 0 0):=hx2.cell 0
  have d1:W5.cell? ⟨w.heap.size+2,1,none⟩=some (.int .i64 0):=hx2.cell 1
  have d2:W5.cell? ⟨w.heap.size+2,2,none⟩=some (.bool false):=hx2.cell 2
  have e0:W5.frozen? ⟨w.heap.size+2,0,none⟩=false:=hx2.frozen 0
  have e1:W5.frozen? ⟨w.heap.size+2,1,none⟩=false:=hx2.frozen 1
  have e2:W5.frozen? ⟨w.heap.size+2,2,none⟩=false:=hx2.frozen 2
  clear hW5 hx0 hx2 hbw hob hbt HQ HS7
  go_wp2
  have hF:=((HF.out.1.set_ 0 (.slice (some ⟨g2,0,none⟩) (ls.length+1) c2)).set_ 1 (.int .i64 B)).set_ 2 (.bool b)
  refine bodyPost_ret (Rec.results_row_tmp rfl _ _ (w.heap.size+2) 36 #[.slice (some ⟨g2,0,none⟩) (ls.length+1) c2,.int .i64 B,.bool b] (0,0) _ rfl hF Tryz.underlying36 rfl st_size) rfl ?_
  have hbf:=below_set3 HF.out.2.1 (Nat.le_add_right _ 2) (.slice (some ⟨g2,0,none⟩) (ls.length+1) c2) (.int .i64 B) (.bool b)
  have hG:∀ (W:World) (k:Nat) (u:Value),W.ownsRow (w.heap.size+3) 38 1 (.slice (some ⟨g2,0,none⟩) (ls++[(⟨a1,c1,l⟩:Torn.Lg)]).length c2) (ls++[(⟨a1,c1,l⟩:Torn.Lg)]).length ((ls++[(⟨a1,c1,l⟩:Torn.Lg)]).map lgV)→(W.setCell ⟨w.heap.size+2,k,none⟩ u).ownsRow (w.heap.size+3) 38 1 (.slice (some ⟨g2,0,none⟩) (ls++[(⟨a1,c1,l⟩:Torn.Lg)]).length c2) (ls++[(⟨a1,c1,l⟩:Torn.Lg)]).length ((ls++[(⟨a1,c1,l⟩:Torn.Lg)]).map lgV):=fun W k u ho=>ownsRow_but ho (Disk.but_set W (w.heap.size+2) k u) (fun j hj hj2=>by have:=(ho.lt j hj).1;omega)
  obtain ⟨g3,c3,h3,hL,_,_,_⟩:=lists_of_own (hG _ 2 (.bool b) (hG _ 1 (.int .i64 B) (hG _ 0 (.slice (some ⟨g2,0,none⟩) (ls.length+1) c2) HF.out.2.2))) (by simp) (HE.out.2.2.1 _ hbf)
  obtain ⟨rfl,rfl⟩:g2=g3∧c2=c3:=by cases h3;exact ⟨rfl,rfl⟩
  exact ⟨⟨g2,c2,rfl,hL,by have:=HE.out.2.1;omega,by have:=HE.out.2.2.2.1;have:=HLE.out;omega,HE.out.2.2.2.2⟩,hbf⟩
end Go.Proofs.YtbhoknnjilidnaaGreatDoor.Seg

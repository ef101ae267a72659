/- Contract of the document's Same, of any two rows of records. Contracts: the law's told and as. Contract: the law's as. A log's state, as plain lists: what a fresh disk's log is, and what an append makes of it where no crash is planned. What a log's calls leave on a disk that may go down at any effect, as plain lists: all done, or a disk from which the log can be opened. -/
import Derived.Test.YtbhoknnjilidnaaGreatDoorG17
import Derived.Test.YtbhoknnjilidnaaGreatDoorG39
import Derived.Test.YtbhoknnjilidnaaGreatDoorG38
set_option linter.unusedSimpArgs false
set_option linter.unusedVariables false
set_option maxHeartbeats 4000000
set_option maxRecDepth 100000
section
namespace Go.Proofs.YtbhoknnjilidnaaGreatDoor.Rec
open Go.Proofs.YtbhoknnjilidnaaGreatDoor.Mem
open Go.ChangeShapes Go.WideShapes Go.ChangeAt Go.RowKit
theorem list_eq_of {α:Type} {l l':List α} (h:l.length=l'.length) (hk:∀ j (h1:j < l.length) (h2:j < l'.length),l[j]=l'[j]):l=l':=List.ext_getElem h hk
theorem same_any (a a':Option Addr) (cap cap':Nat) (l l':List Rcd) (w:World) (h:Recs w a l) (h':Recs w a' l') (hl:l.length≤9223372036854775807) (hl':l'.length≤9223372036854775807) :
  Calls Tryz.prog 39 #[.slice a l.length cap,.slice a' l'.length cap'] w fun e w'=>e = .returned (.bool (decide (l=l')))∧∃ n,w'=w.drewN n:=by
 by_cases hlen:l.length=l'.length
 ·have HR0:=Lib.hid h
  have HR1:=Lib.hid h'
  have HLE:=Lib.hid hlen
  rw [← hlen]
  clear h h'
  go_enter Tryz.func39,Tryz.ntmps39
  go_wp2
  go_loopw [5] (fun i wr=>∃ k n:Nat,k≤l.length∧i = .int .i64 (k:Int)∧wr=w.drewN n∧(∀ j (h1:j < l.length) (h2:j < l'.length),j < k→l[j]=l'[j])) (fun i _=>l.length - (intOf i).toNat)
  case atStart=>exact ⟨0,0,Nat.zero_le _,rfl,rfl,fun j _ _ hj=>by omega⟩
  case round =>
   obtain ⟨k,n,hk,rfl,rfl,hall⟩:=hrel
   have HALL:=Lib.hid hall
   clear hall
   by_cases hlt:k < l.length
   ·have hlt':k < l'.length:=by have:=HLE.out;omega
    obtain ⟨b,off,rfl,hblt,hc⟩:∃ b off,a=some ⟨b,off,none⟩∧b < w.heap.size∧∀ i (h:i < l.length) j u,(cells l[i])[j]?=some u→w.cell? ⟨b,off+i * 14+j,none⟩=some u:=HR0.out.2 (by omega)
    obtain ⟨b',off',rfl,hblt',hc'⟩:∃ b off,a'=some ⟨b,off,none⟩∧b < w.heap.size∧∀ i (h:i < l'.length) j u,(cells l'[i])[j]?=some u→w.cell? ⟨b,off+i * 14+j,none⟩=some u:=HR1.out.2 (by omega)
    have hck:=fun j u (hu:(cells l[k])[j]?=some u)=>hc k hlt j u hu
    have hck':=fun j u (hu:(cells l'[k])[j]?=some u)=>hc' k hlt' j u hu
    have HEQ:=Lib.hid (show ∀ r r',r=l[k]→r'=l'[k]→(r=r'→∀ j (h1:j < l.length) (h2:j < l'.length),j < k+1→l[j]=l'[j])∧(r≠r'→l≠l') from fun r r' h1 h2=>⟨fun e j h3 h4 hj=>by
      by_cases hjk:j=k
      ·subst hjk;rw [← h1,← h2,e]
      ·exact HALL.out j h3 h4 (by omega),fun e hll=>by
      subst hll
      exact e (h1.trans h2.symm)⟩)
    obtain ⟨r,hr⟩:∃ r,r=l[k]:=⟨_,rfl⟩
    obtain ⟨r',hr'⟩:∃ r',r'=l'[k]:=⟨_,rfl⟩
    have HE:=Lib.hid (HEQ.out r r' hr hr')
    rw [← hr] at hck
    rw [← hr'] at hck'
    have hne:=fun w=>rec_neq r r' w
    have heq:=fun w=>rec_equal r r' w
    obtain ⟨e0,e1,e2,e3,e4,e5,e6,e7,e8,e9,e10,e11,e12,e13⟩:=cells_at hck
    obtain ⟨f0,f1,f2,f3,f4,f5,f6,f7,f8,f9,f10,f11,f12,f13⟩:=cells_at hck'
    by_cases hrr:r=r'
    ·have HX:=Lib.hid (HE.out.1 hrr)
     rw [decide_eq_true hrr] at hne heq
     simp only [Bool.not_true,rv,cells] at hne heq
     clear hck hck' hr hr' hc hc' HR0 HR1 hrr HE HEQ HALL
     go_wp2
     go_quiet (fail)
     go_wp2
     go_roundw
     case rel=>exact ⟨k+1,_,by omega,by go_num,rfl,HX.out⟩
     case measure=>simp [intOf];omega
    ·have HX:=Lib.hid (HE.out.2 hrr)
     rw [decide_eq_false hrr] at hne heq
     simp only [Bool.not_false,rv,cells] at hne heq
     clear hck hck' hr hr' hc hc' HR0 HR1 hrr HE HEQ HALL
     go_wp2
     go_quiet (fail)
     go_wp2
     go_ret
     exact ⟨by rw [decide_eq_false HX.out];rfl,n+nq,by rw [World.drewN_drewN]⟩
   ·have hkl:k=l.length:=by omega
    have hll:l=l':=list_eq_of HLE.out (fun j h1 h2=>HALL.out j h1 h2 (by omega))
    subst hkl
    go_wp2
    go_ret
    exact ⟨by rw [decide_eq_true hll];rfl,_,rfl⟩
 ·have hne:decide (l=l')=false:=decide_eq_false (fun e=>hlen (by rw [e]))
  rw [hne]
  have hl1:((l.length:Int) == (l'.length:Int))=false:=beq_eq_false_iff_ne.2 (by omega)
  obtain ⟨n,hn⟩:∃ n,n=l.length:=⟨_,rfl⟩
  obtain ⟨n',hn'⟩:∃ n',n'=l'.length:=⟨_,rfl⟩
  rw [← hn] at hl1 hl ⊢
  rw [← hn'] at hl1 hl' ⊢
  clear hn hn' hne hlen h h'
  go_enter Tryz.func39,Tryz.ntmps39
  go_wp2
  go_ret
  exact ⟨rfl,0,rfl⟩
end Go.Proofs.YtbhoknnjilidnaaGreatDoor.Rec
end
section
namespace Go.Proofs.YtbhoknnjilidnaaGreatDoor.Seg
open Go.Proofs.YtbhoknnjilidnaaGreatDoor.Mem
open Go.Proofs.YtbhoknnjilidnaaGreatDoor.Disk (Nm File St)
open Go.Proofs.YtbhoknnjilidnaaGreatDoor.Rec (Rcd Recs Is okBody same_any)
open Go.Proofs.YtbhoknnjilidnaaGreatDoor.Torn (Gp gcells gpl Pcs Lists)
open Go.ChangeShapes Go.WideShapes Go.ChangeAt Go.RowKit
theorem told_any (a a':Option Addr) (cap cap':Nat) (gs:List Gp) (ls:List Torn.Lg) (w:World) (h:Pcs w a gs) (h':Lists w a' ls) (hl:gs.length≤1000000) (hl':ls.length≤1000000) (hg:∀ g ∈ gs,g.p.l.length≤1000000) (hs:∀ g ∈ ls,g.l.length≤1000000) :
  Calls Tryz.prog 40 #[.slice a gs.length cap,.slice a' ls.length cap'] w fun e w'=>e = .returned (.bool (decide (gs.map (·.p.l)=ls.map (·.l))))∧∃ n,w'=w.drewN n:=by
 by_cases hlen:gs.length=ls.length
 ·have HR0:=Lib.hid h
  have HR1:=Lib.hid h'
  have HLE:=Lib.hid hlen
  have HL:=Lib.hid (And.intro hg hs)
  obtain ⟨n,hn⟩:∃ n,n=gs.length:=⟨_,rfl⟩
  rw [← hlen,← hn]
  have HN:=Lib.hid (And.intro hn (show n=ls.length by omega))
  have hn1:n≤1000000:=by omega
  clear h h' hl hl' hg hs hlen hn
  go_enter Tryz.func40,Tryz.ntmps40
  go_wp2_with fail
  go_loopw [5] (fun i wr=>∃ k m:Nat,k≤n∧i = .int .i64 (k:Int)∧wr=w.drewN m∧(∀ j (h1:j < gs.length) (h2:j < ls.length),j < k→gs[j].p.l=ls[j].l)) (fun i _=>n - (intOf i).toNat)
  case atStart=>exact ⟨0,0,Nat.zero_le _,rfl,rfl,fun j _ _ hj=>by omega⟩
  case round =>
   obtain ⟨k,m,hk,rfl,rfl,hall⟩:=hrel
   have HALL:=Lib.hid hall
   clear hall
   by_cases hlt:k < n
   ·have hk0:k < gs.length:=by have:=HN.out.1;omega
    have hk1:k < ls.length:=by have:=HN.out.2;omega
    obtain ⟨b,off,rfl,hblt,hc⟩:=HR0.out.2 (by omega)
    obtain ⟨b',off',rfl,hblt',hc'⟩:=HR1.out.2 (by omega)
    have hr0:=HR0.out.1 gs[k] (List.getElem_mem hk0)
    have hr1:=HR1.out.1 ls[k] (List.getElem_mem hk1)
    have hl0:=HL.out.1 gs[k] (List.getElem_mem hk0)
    have hl1:=HL.out.2 ls[k] (List.getElem_mem hk1)
    have e2:w.cell? ⟨b,off+k * 3+2,none⟩=some (.slice gs[k].a gs[k].p.l.length gs[k].cap):=hc k hk0 2 _ rfl
    have f2:=hc' k hk1
    have HEQ:=Lib.hid (show (gs[k].p.l=ls[k].l→∀ j (h1:j < gs.length) (h2:j < ls.length),j < k+1→gs[j].p.l=ls[j].l)∧(gs[k].p.l≠ls[k].l→gs.map (·.p.l)≠ls.map (·.l)) from ⟨fun e j h1 h2 hj=>by
     by_cases hjk:j=k
     ·subst hjk;exact e
     ·exact HALL.out j h1 h2 (by omega),fun e hh=>e (by
     have:=congrArg (fun l=>l[k]?) hh
     simpa [hk0,hk1] using this)⟩)
    obtain ⟨P,hP⟩:∃ P,P=gs[k]:=⟨_,rfl⟩
    obtain ⟨P',hP'⟩:∃ P',P'=ls[k]:=⟨_,rfl⟩
    rw [← hP] at hr0 hl0 e2
    rw [← hP'] at hr1 hl1 f2
    rw [← hP,← hP'] at HEQ
    obtain ⟨⟨q1,q2,q3⟩,q4,q5⟩:=P
    obtain ⟨q6,q7,q8⟩:=P'
    dsimp only at hr0 hr1 hl0 hl1 e2 f2 HEQ
    have HSM:=Lib.hid (fun u j (hu:u=w.drewN j)=>same_any q4 q6 q5 q7 q3 q8 u (hu ▸ Recs.below hr0 (below_drewN w j)) (hu ▸ Recs.below hr1 (below_drewN w j)) (by omega) (by omega))
    have HC:=Lib.hid (And.intro e2 f2)
    clear hr0 hr1 hl0 hl1 e2 f2 hc hc' hP hP' hblt hblt' HR0 HR1 HL HALL
    go_wp2_with fail
    refine Late.region_goes (fun u=>∃ j,u=w.drewN j) (fun _=>false) (by kernel_rfl) ?_ (fun hH=>?_)
    ·exact ⟨m+1,rfl⟩
    refine Late.tk 0 ?_ ?_ hH ?_;rotate_left 2
    refine Late.tk 1 ?_ ?_ hH ?_;rotate_left 2
    refine Late.tk 2 ?_ ?_ hH ?_;rotate_left 2
    refine Late.tk 3 ?_ ?_ hH ?_;rotate_left 2
    refine Late.tk 4 ?_ ?_ hH ?_;rotate_left 2
    refine Late.tk 5 ?_ ?_ hH ?_;rotate_left 2
    refine Late.tk 6 ?_ ?_ hH ?_;rotate_left 2
    refine Late.tk 7 ?_ ?_ hH ?_;rotate_left 2
    refine Late.tk 8 ?_ ?_ hH ?_;rotate_left 2
    rotate_left
    any_goals (intro wy hSw;(try dsimp only at hSw);obtain ⟨j,rfl⟩:=hSw;obtain ⟨e2,f2⟩:=HC.out;go_simp;try (with_reducible rfl))
    try simp only [Act.put,List.setIfInBounds_toArray,List.set_cons_zero,List.set_cons_succ]
    refine Late.Goes.one (i:=9) (by kernel_rfl) (by simp only [List.getElem?_toArray,List.getElem?_cons_succ,List.getElem?_cons_zero];rfl) (fun K hK=>?_)
    clear hH
    go_simp
    go_at_call 39
    refine (HSM.out _ (m+1) rfl).mono ?_
    rintro e w4 ⟨rfl,j2,rfl⟩
    refine hK.out _ _ ?_ (fun hH=>?_)
    ·exact fun _=>⟨m+1+j2,World.drewN_drewN _ _ _⟩
    clear hK K
    have hH:=hH rfl
    try simp only [Act.put,List.setIfInBounds_toArray,List.set_cons_zero,List.set_cons_succ]
    refine Late.tk 10 ?_ ?_ hH ?_;rotate_left 2
    rotate_left
    any_goals (intro wy hSw;(try dsimp only at hSw);obtain ⟨j,rfl⟩:=hSw;obtain ⟨e2,f2⟩:=HC.out;go_simp;try (with_reducible rfl))
    try simp only [Act.put,List.setIfInBounds_toArray,List.set_cons_zero,List.set_cons_succ]
    refine Late.Goes.done (by kernel_rfl) ?_ _
    by_cases hq:q3=q8
    ·have HX:=Lib.hid (HEQ.out.1 hq)
     rw [decide_eq_true hq]
     clear HEQ HSM HC hq
     go_wp2_with fail
     go_roundw
     case rel=>exact ⟨k+1,m+1+j2,by omega,by go_num,rfl,HX.out⟩
     case measure=>simp [intOf];omega
    ·have HX:=Lib.hid (HEQ.out.2 hq)
     rw [decide_eq_false hq]
     clear HEQ HSM HC hq
     go_wp2_with fail
     go_ret
     exact ⟨by rw [decide_eq_false HX.out];rfl,m+1+j2,rfl⟩
   ·have hkl:k=n:=by omega
    have hll:gs.map (·.p.l)=ls.map (·.l):=List.ext_getElem (by have:=HN.out;simp;omega) (fun j h1 h2=>by
     rw [List.getElem_map,List.getElem_map]
     simp at h1 h2
     exact HALL.out j h1 h2 (by have:=HN.out;omega))
    have HLL:=Lib.hid hll
    clear hll HALL HR0 HR1 HL hlt
    subst hkl
    go_wp2_with fail
    go_ret
    exact ⟨by rw [decide_eq_true HLL.out];rfl,_,rfl⟩
 ·have hne:decide (gs.map (·.p.l)=ls.map (·.l))=false:=decide_eq_false (fun e=>hlen (by have:=congrArg List.length e;simpa using this))
  rw [hne]
  have hl1:((gs.length:Int) == (ls.length:Int))=false:=beq_eq_false_iff_ne.2 (by omega)
  obtain ⟨n,hn⟩:∃ n,n=gs.length:=⟨_,rfl⟩
  obtain ⟨n',hn'⟩:∃ n',n'=ls.length:=⟨_,rfl⟩
  rw [← hn] at hl1 hl ⊢
  rw [← hn'] at hl1 hl' ⊢
  clear hn hn' hne hlen h h' hg hs
  go_enter Tryz.func40,Tryz.ntmps40
  go_wp2
  go_ret
  exact ⟨rfl,0,rfl⟩
end Go.Proofs.YtbhoknnjilidnaaGreatDoor.Seg
end
section
namespace Go.Proofs.YtbhoknnjilidnaaGreatDoor.Seg
open Go.Proofs.YtbhoknnjilidnaaGreatDoor.Mem
open Go.Proofs.YtbhoknnjilidnaaGreatDoor.Disk (Nm File St)
open Go.Proofs.YtbhoknnjilidnaaGreatDoor.Rec (Rcd Recs Is okBody)
open Go.Proofs.YtbhoknnjilidnaaGreatDoor.Torn (Gp gcells gpl Pcs Lists)
open Go.ChangeShapes Go.WideShapes Go.ChangeAt Go.RowKit
section
variable {w w1 w2 W W':World} {p lb g c:Nat} {S:St} {F:Nat→Prop} {limit:Int} {nums:List Nat} {base:Nat} {begun:Bool} {zs:List Nat} {vz:Value} {failed:Bool}
structure AsS (w:World) (a:Option Addr) (n cap:Nat) (B:Int) (b:Bool) (V:World):Prop where
 st:Disk.Blk V w.heap.size 36 #[.slice a n cap,.int .i64 B,.bool b]
 bl:Below w.heap.size w V
theorem AsS.below {V V':World} {a:Option Addr} {n cap:Nat} {B:Int} {b:Bool} (h:AsS w a n cap B b V) (hb:Below V.heap.size V V'):AsS w a n cap B b V' :=
 ⟨blk_below h.st hb h.st.lt,h.bl.trans (hb.mono h.bl.size)⟩
theorem AsS.start (w:World) (a:Option Addr) (n cap:Nat) (B:Int) (b:Bool):AsS w a n cap B b (w.alloc (.cells #[.slice a n cap,.int .i64 B,.bool b] 36)) :=
 ⟨Disk.Blk.new _ _ _,(Below.refl _ w).alloc (Nat.le_refl _) _⟩
theorem as_any (h:SysAt w p lb S limit nums base begun zs failed F g c vz) {ap:Option Addr} {cp:Nat} {gs:List Gp} (hp:Pcs w ap gs) (hgl:gs.length≤1000000) (hg:∀ g ∈ gs,g.p.l.length≤1000000) {a:Option Addr} {cap:Nat} {ls:List Torn.Lg} (hL:Lists w a ls) (hl:ls.length≤1000000) (hs:∀ g ∈ ls,g.l.length≤1000000) (B:Int) (b:Bool) :
  Calls Tryz.prog 21 #[.pointer (some ⟨lb,0,none⟩),.slice ap gs.length cp,stV a ls.length cap B b] w fun e w'=>e = .returned (.bool (decide (gs.map (·.p.l)=ls.map (·.l)) && (begun == b)))∧Below w.heap.size w w':=by
 have HH:=Lib.hid (And.intro h (And.intro hp (And.intro hgl (And.intro hg (And.intro hL (And.intro hl hs))))))
 have HS0:=Lib.hid (AsS.start w a ls.length cap B b)
 obtain ⟨W,hW⟩:∃ W,W=w.alloc (.cells #[.slice a ls.length cap,.int .i64 B,.bool b] 36):=⟨_,rfl⟩
 rw [← hW] at HS0
 obtain ⟨T,hT⟩:∃ T,T=decide (gs.map (·.p.l)=ls.map (·.l)):=⟨_,rfl⟩
 rw [← hT]
 have HT:=Lib.hid hT
 clear h hp hgl hg hL hl hs hT
 unfold stV
 go_enter Tryz.func21,Tryz.ntmps21
 go_wp2_with fail
 rw [← hW]
 clear hW
 refine Late.region_goes (fun V=>AsS w a ls.length cap B b V) (fun _=>false) (by kernel_rfl) ?_ (fun hH=>?_)
 ·exact HS0.out.below ((Below.refl _ W).drew)
 refine Late.tk 0 ?_ ?_ hH ?_;rotate_left 2
 refine Late.tk 1 ?_ ?_ hH ?_;rotate_left 2
 refine Late.tk 2 ?_ ?_ hH ?_;rotate_left 2
 rotate_left
 any_goals (intro wy hSw;(try dsimp only at hSw);obtain ⟨q1,q2⟩:=hSw;have k0:wy.cell? ⟨w.heap.size,0,none⟩=some _:=q1.cell 0;have k2:wy.cell? ⟨w.heap.size,2,none⟩=some _:=q1.cell 2;go_simp;try (with_reducible rfl))
 try simp only [Act.put,List.setIfInBounds_toArray,List.set_cons_zero,List.set_cons_succ]
 refine Late.Goes.one (i:=3) (by kernel_rfl) (by simp only [List.getElem?_toArray,List.getElem?_cons_succ,List.getElem?_cons_zero];rfl) (fun K hK=>?_)
 clear hH
 go_simp
 go_at_call 40
 have HS1:=Lib.hid (HS0.out.below ((Below.refl _ W).drew))
 refine (told_any ap a cp cap gs ls _ (HH.out.2.1.below HS1.out.bl) (HH.out.2.2.2.2.1.below HS1.out.bl) HH.out.2.2.1 HH.out.2.2.2.2.2.1 HH.out.2.2.2.1 HH.out.2.2.2.2.2.2).mono ?_
 rw [← HT.out]
 rintro e w4 ⟨rfl,j,rfl⟩
 have HS2:=Lib.hid (HS1.out.below (below_drewN _ j))
 obtain ⟨w4,hw4⟩:∃ V,V=W.drew.drewN j:=⟨_,rfl⟩
 rw [← hw4] at HS2 ⊢
 clear HS1 HS0 hw4
 refine hK.out _ _ ?_ (fun hH=>?_)
 ·exact fun _=>HS2.out
 clear hK K
 have hH:=hH rfl
 try simp only [Act.put,List.setIfInBounds_toArray,List.set_cons_zero,List.set_cons_succ]
 rcases T with _|_
 ·skip
  refine Late.tk 4 ?_ ?_ hH ?_;rotate_left 2
  rotate_left
  any_goals (intro wy hSw;(try dsimp only at hSw);obtain ⟨q1,q2⟩:=hSw;have k0:wy.cell? ⟨w.heap.size,0,none⟩=some _:=q1.cell 0;have k2:wy.cell? ⟨w.heap.size,2,none⟩=some _:=q1.cell 2;go_simp;try (with_reducible rfl))
  try simp only [Act.put,List.setIfInBounds_toArray,List.set_cons_zero,List.set_cons_succ]
  refine Late.tn 5 hH ?_
  try simp only [Act.put,List.setIfInBounds_toArray,List.set_cons_zero,List.set_cons_succ]
  refine Late.tn 6 hH ?_
  try simp only [Act.put,List.setIfInBounds_toArray,List.set_cons_zero,List.set_cons_succ]
  refine Late.tn 7 hH ?_
  try simp only [Act.put,List.setIfInBounds_toArray,List.set_cons_zero,List.set_cons_succ]
  refine Late.tn 8 hH ?_
  try simp only [Act.put,List.setIfInBounds_toArray,List.set_cons_zero,List.set_cons_succ]
  refine Late.tn 9 hH ?_
  try simp only [Act.put,List.setIfInBounds_toArray,List.set_cons_zero,List.set_cons_succ]
  refine Late.tk 10 ?_ ?_ hH ?_;rotate_left 2
  refine Late.tk 11 ?_ ?_ hH ?_;rotate_left 2
  rotate_left
  any_goals (intro wy hSw;(try dsimp only at hSw);obtain ⟨q1,q2⟩:=hSw;have k0:wy.cell? ⟨w.heap.size,0,none⟩=some _:=q1.cell 0;have k2:wy.cell? ⟨w.heap.size,2,none⟩=some _:=q1.cell 2;go_simp;try (with_reducible rfl))
  try simp only [Act.put,List.setIfInBounds_toArray,List.set_cons_zero,List.set_cons_succ]
  refine Late.Goes.done (by kernel_rfl) ?_ _
  go_wp2_with fail
  go_ret
  exact ⟨rfl,HS2.out.bl⟩
 ·skip
  refine Late.tk 4 ?_ ?_ hH ?_;rotate_left 2
  rotate_left
  any_goals (intro wy hSw;(try dsimp only at hSw);obtain ⟨q1,q2⟩:=hSw;have k0:wy.cell? ⟨w.heap.size,0,none⟩=some _:=q1.cell 0;have k2:wy.cell? ⟨w.heap.size,2,none⟩=some _:=q1.cell 2;go_simp;try (with_reducible rfl))
  try simp only [Act.put,List.setIfInBounds_toArray,List.set_cons_zero,List.set_cons_succ]
  refine Late.tk 5 ?_ ?_ hH ?_;rotate_left 2
  refine Late.tk 7 ?_ ?_ hH ?_;rotate_left 2
  refine Late.tk 8 ?_ ?_ hH ?_;rotate_left 2
  rotate_left
  any_goals (intro wy hSw;(try dsimp only at hSw);obtain ⟨q1,q2⟩:=hSw;have k0:wy.cell? ⟨w.heap.size,0,none⟩=some _:=q1.cell 0;have k2:wy.cell? ⟨w.heap.size,2,none⟩=some _:=q1.cell 2;go_simp;try (with_reducible rfl))
  try simp only [Act.put,List.setIfInBounds_toArray,List.set_cons_zero,List.set_cons_succ]
  refine Late.Goes.one (i:=6) (by kernel_rfl) (by simp only [List.getElem?_toArray,List.getElem?_cons_succ,List.getElem?_cons_zero];rfl) (fun K hK=>?_)
  clear hH
  go_simp
  go_at_call 41
  refine (begun_log (HH.out.1.below HS2.out.bl)).mono ?_
  rintro e w5 ⟨rfl,rfl⟩
  refine hK.out _ _ ?_ (fun hH=>?_)
  ·exact fun _=>HS2.out
  clear hK K
  have hH:=hH rfl
  try simp only [Act.put,List.setIfInBounds_toArray,List.set_cons_zero,List.set_cons_succ]
  refine Late.tk 9 ?_ ?_ hH ?_;rotate_left 2
  refine Late.tk 10 ?_ ?_ hH ?_;rotate_left 2
  refine Late.tk 11 ?_ ?_ hH ?_;rotate_left 2
  rotate_left
  any_goals (intro wy hSw;(try dsimp only at hSw);obtain ⟨q1,q2⟩:=hSw;have k0:wy.cell? ⟨w.heap.size,0,none⟩=some _:=q1.cell 0;have k2:wy.cell? ⟨w.heap.size,2,none⟩=some _:=q1.cell 2;go_simp;try (with_reducible rfl))
  try simp only [Act.put,List.setIfInBounds_toArray,List.set_cons_zero,List.set_cons_succ]
  refine Late.Goes.done (by kernel_rfl) ?_ _
  go_wp2_with fail
  go_ret
  exact ⟨rfl,HS2.out.bl⟩
end
end Go.Proofs.YtbhoknnjilidnaaGreatDoor.Seg
end
section
namespace Go.Proofs.YtbhoknnjilidnaaGreatDoor.Seg
open Go.Proofs.YtbhoknnjilidnaaGreatDoor.Mem
open Go.Proofs.YtbhoknnjilidnaaGreatDoor.Disk (Nm File St Eff Has grow errV used run tot sees ons)
open Go.Proofs.YtbhoknnjilidnaaGreatDoor.Rec (Rcd Is okBody)
open Go.Proofs.YtbhoknnjilidnaaGreatDoor.Frame (frm)
open Go.Proofs.YtbhoknnjilidnaaGreatDoor.Torn (frames size scan total piecesOf frm_size frames_cons)
structure Lg (S:St) (cap:Int) (nums:List Nat) (base:Nat) (begun:Bool) (fr:Nat→List (List Rcd)):Prop where
 up:Up cap S
 inv:Inv (vw S.files) nums base begun fr
 num:Nums nums
 ok:∀ i ∈ nums,∀ l ∈ fr i,okBody l∧∀ r ∈ l,Is r
def szs (nums:List Nat) (fr:Nat→List (List Rcd)):List Nat:=nums.map fun i=>(frames (fr i)).length
theorem deed_done {c:Int} {S:St} {xs:List Eff} (hU:Up c S) (hpl:S.plan=none) (hm:MaysV xs (vw S.files)) (hn:S.files.length+news xs < 1000) (hc:((tot S.files+adds xs:Nat):Int)≤c) {P:View→Prop} (hP:P (sees xs (vw S.files))) :
  ∃ T,run xs S=(0,T)∧Up c T∧P (vw T.files)∧T.plan=none∧T.files.length≤S.files.length+news xs∧tot T.files≤tot S.files+adds xs:=by
 rcases deed hU hm hn hc hP (Q:=fun _=>True) (fun _ _ _ _=>trivial) with ⟨T,h1,h2,h3,h4,h5,h6⟩|⟨T,_,h2,_⟩
 ·exact ⟨T,h1,h2,h3,h4 hpl,h5,h6⟩
 ·exact absurd hpl h2
theorem up_fresh (cap:Int):Up cap (Disk.fresh cap):=⟨rfl,rfl,List.Pairwise.nil,fun l k e=>by cases e⟩
theorem fresh_math {cap:Int} (hc:100≤cap):∃ T,run (rotA 1 (manFile [1] 0 false)) (Disk.fresh cap)=(0,T)∧Lg T cap [1] 0 false (fun _=>[])∧T.plan=none∧tot T.files≤19:=by
 have hv:vw (Disk.fresh cap).files=fun _=>none:=rfl
 have ha:adds (rotA 1 (manFile [1] 0 false))=19:=by rw [adds_rot,man_length];rfl
 have hm:MaysV (rotA 1 (manFile [1] 0 false)) (vw (Disk.fresh cap).files):=by
  refine ⟨rfl,sw_mays ?_ _⟩
  rw [see_other (x := .new (seg 1)) (.inl rfl) (seg_t 1).symm];rfl
 have h0:tot (Disk.fresh cap).files=0:=rfl
 obtain ⟨T,h1,h2,h3,h4,h5,h6⟩:=deed_done (up_fresh cap) rfl hm (by rw [news_rot];show 0+2 < 1000;omega) (by rw [h0,ha];omega) (P:=fun v=>Inv v [1] 0 false (fun _=>[])) (by
  refine ⟨by rw [rot_see,if_pos rfl],fun i hi=>?_,fun n hs=>?_⟩
  ·rw [List.mem_singleton.1 hi,rot_see,if_neg (seg_m 1),if_neg (seg_t 1),if_pos rfl];rfl
  ·rw [rot_see] at hs
   by_cases q1:n=nM
   ·exact .inl q1
   ·rw [if_neg q1] at hs
    by_cases q2:n=nT
    ·rw [if_pos q2] at hs;cases hs
    ·rw [if_neg q2] at hs
     by_cases q3:n=seg 1
     ·exact .inr ⟨1,List.mem_singleton.2 rfl,q3⟩
     ·rw [if_neg q3] at hs;cases hs)
 exact ⟨T,h1,⟨h2,h3,⟨List.pairwise_singleton _ _,fun i hi=>by rw [List.mem_singleton.1 hi];exact Nat.le_refl _,by simp⟩,fun i _ l hl=>absurd hl List.not_mem_nil⟩,h4,by rw [h0,ha] at h6;omega⟩
theorem scan_all {ls:List (List Rcd)} (h:∀ l ∈ ls,okBody l∧∀ r ∈ l,Is r) (at_:Nat) {tail:List Int} (ht:Torn.one tail=none):scan at_ (frames ls++tail)=piecesOf at_ ls∧total (scan at_ (frames ls++tail))=(frames ls).length:=by
 induction ls generalizing at_ with
 | nil =>
  have e:frames []++tail=tail:=rfl
  rw [e,Torn.scan_none ht]
  exact ⟨rfl,rfl⟩
 | cons l r ih =>
  obtain ⟨h1,h2⟩:=h l List.mem_cons_self
  obtain ⟨g1,g2⟩:=ih (fun m hm=>h m (List.mem_cons_of_mem _ hm)) (at_+size l)
  rw [frames_cons,List.append_assoc,Torn.scan_front h1 h2]
  refine ⟨by rw [g1];rfl,?_⟩
  rw [Torn.total_cons,g2,List.length_append,frm_size]
theorem untold_none {S:St} {nums:List Nat} {base:Nat} {begun:Bool} {fr:Nat→List (List Rcd)} (h:Inv (vw S.files) nums base begun fr):untold nums (S.files.map (·.1))=[]:=by
 refine List.filter_eq_nil_iff.2 (fun n hn=>?_)
 have h1:=h.only n (look_names.1 hn)
 unfold toldBy
 have:n=nM∨n ∈ nums.map seg:=by
  rcases h1 with h1|⟨i,hi,h1⟩
  ·exact .inl h1
  ·exact .inr (List.mem_map.2 ⟨i,hi,h1.symm⟩)
 rw [decide_eq_true this]
 decide
theorem names_short {S:St} {nums:List Nat} {base:Nat} {begun:Bool} {fr:Nat→List (List Rcd)} (h:Inv (vw S.files) nums base begun fr) (hi:∀ i ∈ nums,i≤100000) (ha:Disk.Apart S.files):∀ x ∈ S.files,x.1.length≤1000000:=by
 intro x hx
 have h1:=h.only x.1 (look_names.1 (List.mem_map.2 ⟨x,hx,rfl⟩))
 rcases h1 with h1|⟨i,hi2,h1⟩
 ·rw [h1];decide
 ·rw [h1]
  have:=dec_len i
  have:=hi i hi2
  unfold seg
  rw [List.length_cons];omega
theorem append_math {S:St} {cap:Int} {nums:List Nat} {base:Nat} {begun:Bool} {fr:Nat→List (List Rcd)} (h:Lg S cap nums base begun fr) (hpl:S.plan=none) {i:Nat} (hi:nums.getLast?=some i) {l:List Rcd} (hl:okBody l) (his:∀ r ∈ l,Is r) (hn:nums.length≤900) (hc:((tot S.files+(40+size l)+4 * nums.length:Nat):Int)≤cap) (hf:fr (i+1)=[]) :
  (∃ T,run (apA i (frm (Rec.body l))) S=(0,T)∧Lg T cap nums base begun (bump fr i l)∧T.plan=none∧tot T.files≤tot S.files+(40+size l)+4 * nums.length) ∧
  (∃ T,run (rotA (i+1) (manFile (nums++[i+1]) base begun)++apA (i+1) (frm (Rec.body l))) S=(0,T)∧Lg T cap (nums++[i+1]) base begun (bump fr (i+1) l)∧T.plan=none∧tot T.files≤tot S.files+(40+size l)+4 * nums.length):=by
 have hmem:=last_mem hi
 have hfl:(frm (Rec.body l)).length=size l:=frm_size l
 have hlen:=h.inv.files h.up.apart
 have hmax:∀ k ∈ nums,k≤i:=by
  intro k hk
  obtain ⟨j,hj,rfl⟩:=List.getElem_of_mem hk
  have hil:nums[nums.length - 1]'(by omega)=i:=by
   rw [List.getLast?_eq_getElem?,List.getElem?_eq_getElem (by omega)] at hi
   injection hi
  rcases Nat.lt_or_ge j (nums.length - 1) with h1|h1
  ·have:=List.pairwise_iff_getElem.1 h.num.rising j (nums.length - 1) hj (by omega) h1
   omega
  ·have:j=nums.length - 1:=by omega
   subst this
   omega
 have hbump:∀ (ns:List Nat) (k:Nat),(∀ j ∈ ns,j ∈ nums∨j=i+1)→(∀ j ∈ ns,∀ m ∈ bump fr k l j,okBody m∧∀ r ∈ m,Is r):=fun ns k hs j hj m hm=>by
  unfold bump at hm
  have hfr:∀ m ∈ fr j,okBody m∧∀ r ∈ m,Is r:=fun m hm=>by
   rcases hs j hj with h1|h1
   ·exact h.ok j h1 m hm
   ·rw [h1,hf] at hm;cases hm
  split at hm
  ·rcases List.mem_append.1 hm with h1|h1
   ·exact hfr m h1
   ·rw [List.mem_singleton.1 h1];exact ⟨hl,his⟩
  ·exact hfr m hm
 refine ⟨?_,?_⟩
 ·obtain ⟨T,h1,h2,h3,h4,h5,h6⟩:=deed_done h.up hpl (ap_mays h.inv hmem (frm (Rec.body l))) (by rw [news_ap];omega) (by rw [adds_ap];omega) (P:=fun v=>Inv v nums base begun (bump fr i l)) (add_inv h.inv hmem l)
  rw [adds_ap] at h6
  exact ⟨T,h1,⟨h2,h3,h.num,hbump nums i (fun j hj => .inl hj)⟩,h4,by omega⟩
 ·have hne:∀ k ∈ nums,k≠i+1:=fun k hk e=>by have:=hmax k hk;omega
  have hi1:i+1 ∈ nums++[i+1]:=List.mem_append_right _ (List.mem_singleton.2 rfl)
  have hr:=rot_inv h.inv hne hf base begun
  have hmay:MaysV (rotA (i+1) (manFile (nums++[i+1]) base begun)++apA (i+1) (frm (Rec.body l))) (vw S.files):=maysV_app.2 ⟨rot_mays h.inv hne _,ap_mays hr hi1 _⟩
  have hnw:news (rotA (i+1) (manFile (nums++[i+1]) base begun)++apA (i+1) (frm (Rec.body l)))=2:=by rw [news_app,news_rot,news_ap]
  have had:adds (rotA (i+1) (manFile (nums++[i+1]) base begun)++apA (i+1) (frm (Rec.body l)))=15+4 * (nums.length+1)+(frm (Rec.body l)).length:=by rw [adds_app,adds_rot,adds_ap,man_length,List.length_append,List.length_singleton]
  obtain ⟨T,h1,h2,h3,h4,h5,h6⟩:=deed_done h.up hpl hmay (by rw [hnw];omega) (by rw [had];omega) (P:=fun v=>Inv v (nums++[i+1]) base begun (bump fr (i+1) l)) (by rw [Disk.sees_app];exact add_inv hr hi1 l)
  rw [had] at h6
  refine ⟨T,h1,⟨h2,h3,⟨?_,?_,by simp⟩,hbump _ (i+1) (fun j hj=>?_)⟩,h4,by omega⟩
  ·refine List.pairwise_append.2 ⟨h.num.rising,List.pairwise_singleton _ _,fun a ha b hb=>?_⟩
   rw [List.mem_singleton.1 hb]
   have:=hmax a ha;omega
  ·intro j hj
   rcases List.mem_append.1 hj with h7|h7
   ·exact h.num.pos j h7
   ·rw [List.mem_singleton.1 h7];omega
  ·rcases List.mem_append.1 hj with h7|h7
   ·exact .inl h7
   ·exact .inr (List.mem_singleton.1 h7)
theorem szs_length (nums:List Nat) (fr:Nat→List (List Rcd)):(szs nums fr).length=nums.length:=List.length_map _
theorem szs_last {nums:List Nat} {fr:Nat→List (List Rcd)} {i:Nat} (hi:nums.getLast?=some i) (h:(szs nums fr).length - 1 < (szs nums fr).length):(szs nums fr)[(szs nums fr).length - 1]=(frames (fr i)).length:=by
 unfold szs at h ⊢
 rw [List.length_map] at h
 have hil:nums[nums.length - 1]'h=i:=by
  rw [List.getLast?_eq_getElem?,List.getElem?_eq_getElem h] at hi
  injection hi
 simp only [List.length_map,List.getElem_map,hil]
theorem szs_more {nums:List Nat} {fr:Nat→List (List Rcd)} {k:Nat} {l:List Rcd} (hk:∀ j ∈ nums,j≠k) (hf:fr k=[]):szs (nums++[k]) (bump fr k l)=szs nums fr++[size l]:=by
 unfold szs
 rw [List.map_append,List.map_singleton,bump_same,hf]
 congr 1
 ·refine List.map_congr_left (fun j hj=>?_)
  rw [bump_other fr l (hk j hj)]
 ·show [(frames [l]).length]=[size l]
  rw [frames_cons]
  have:frames []=[]:=rfl
  rw [this,List.append_nil,frm_size]
theorem szs_bump {nums:List Nat} {fr:Nat→List (List Rcd)} {i:Nat} {l:List Rcd} (hr:nums.Pairwise (· < ·)) (hi:nums.getLast?=some i):szs nums (bump fr i l)=(szs nums fr).set ((szs nums fr).length - 1) ((frames (fr i)).length+size l):=by
 have hn:0 < nums.length:=by
  rcases nums with _|⟨a,r⟩
  ·cases hi
  ·simp
 have hil:nums[nums.length - 1]'(by omega)=i:=by
  rw [List.getLast?_eq_getElem?,List.getElem?_eq_getElem (by omega)] at hi
  injection hi
 refine List.ext_getElem (by rw [List.length_set,szs_length,szs_length]) (fun j h1 h2=>?_)
 rw [szs_length] at h1
 have hl:=szs_length nums fr
 rw [List.getElem_set]
 have eL:(szs nums (bump fr i l))[j]'(by rw [szs_length];exact h1)=(frames (bump fr i l nums[j])).length:=by unfold szs;rw [List.getElem_map]
 have eR:(szs nums fr)[j]'(by rw [szs_length];exact h1)=(frames (fr nums[j])).length:=by unfold szs;rw [List.getElem_map]
 rw [eL,eR]
 simp only [hl]
 by_cases hj:nums.length - 1=j
 ·subst hj
  rw [if_pos rfl,hil,bump_same,frames_add,List.length_append,frm_size]
 ·rw [if_neg hj,bump_other]
  intro e
  have:=List.pairwise_iff_getElem.1 hr j (nums.length - 1) h1 (by omega) (by omega)
  rw [hil,e] at this
  omega
end Go.Proofs.YtbhoknnjilidnaaGreatDoor.Seg
end
section
namespace Go.Proofs.YtbhoknnjilidnaaGreatDoor.Seg
open Go.Proofs.YtbhoknnjilidnaaGreatDoor.Mem
open Go.Proofs.YtbhoknnjilidnaaGreatDoor.Disk (Nm File St Eff Fs Apart sees sees_cons sees_app run tot PlanOk mapv trunc)
open Go.Proofs.YtbhoknnjilidnaaGreatDoor.Rec (Rcd Is okBody)
open Go.Proofs.YtbhoknnjilidnaaGreatDoor.Frame (frm)
open Go.Proofs.YtbhoknnjilidnaaGreatDoor.Torn (one frames size frm_size)
def knownN (n:Nm):Prop:=n=nM∨n=nT∨∃ i,i < 100∧n=seg i
def Known (v:View):Prop:=∀ n,(v n).isSome=true→knownN n
def knownE:Eff→Prop
 | .new n=>knownN n
 | .move _ n=>knownN n
 | _=>True
theorem map_some {α β:Type} {o:Option α} {f:α→β} (h:(o.map f).isSome=true):o.isSome=true:=by cases o <;> simp_all
theorem Known.see {v:View} (h:Known v) {x:Eff} (hx:knownE x):Known (x.see v):=by
 intro n hn
 cases x with
 | new m =>
  by_cases e:n=m
  ·rw [e];exact hx
  ·exact h n (by simpa [Eff.see,e] using hn)
 | add m b =>
  by_cases e:n=m
  ·subst e
   refine h n ?_
   have:(((v n).map fun f=>(⟨f.bytes++b,f.synced⟩:File))).isSome=true:=by simpa [Eff.see] using hn
   exact map_some this
  ·exact h n (by simpa [Eff.see,e] using hn)
 | syn m =>
  by_cases e:n=m
  ·subst e
   refine h n ?_
   have:(((v n).map fun f=>(⟨f.bytes,f.bytes.length⟩:File))).isSome=true:=by simpa [Eff.see] using hn
   exact map_some this
  ·exact h n (by simpa [Eff.see,e] using hn)
 | short m k =>
  by_cases e:n=m
  ·subst e
   refine h n ?_
   have:(((v n).map fun f=>(⟨f.bytes.take k,min f.synced k⟩:File))).isSome=true:=by simpa [Eff.see] using hn
   exact map_some this
  ·exact h n (by simpa [Eff.see,e] using hn)
 | move a m =>
  by_cases e:n=m
  ·rw [e];exact hx
  ·by_cases e2:n=a
   ·subst e2
    exfalso
    simp [Eff.see,e] at hn
   ·exact h n (by simpa [Eff.see,e,e2] using hn)
 | gone m =>
  by_cases e:n=m
  ·subst e
   simp [Eff.see] at hn
  ·exact h n (by simpa [Eff.see,e] using hn)
theorem Known.sees {xs:List Eff}:∀ {v:View},Known v→(∀ x ∈ xs,knownE x)→Known (sees xs v):=by
 induction xs with
 | nil=>exact fun h _=>h
 | cons x r ih =>
  intro v h hx
  rw [sees_cons]
  exact ih (h.see (hx x List.mem_cons_self)) (fun y hy=>hx y (List.mem_cons_of_mem _ hy))
theorem Known.cut {v:View} (h:Known v) (kp:Int):Known (cutAll kp v):=fun n hn=>h n (map_some hn)
theorem known_sw (B:List Int):∀ x ∈ sw B,knownE x:=by
 intro x hx
 unfold sw swA at hx
 simp only [List.cons_append,List.nil_append,List.mem_cons,List.not_mem_nil,or_false] at hx
 rcases hx with rfl|rfl|rfl|rfl
 ·exact .inr (.inl rfl)
 ·trivial
 ·trivial
 ·exact .inl rfl
theorem known_rot {k:Nat} (hk:k < 100) (B:List Int):∀ x ∈ rotA k B,knownE x:=by
 intro x hx
 rcases List.mem_cons.1 hx with rfl|hx
 ·exact .inr (.inr ⟨k,hk,rfl⟩)
 ·exact known_sw B x hx
theorem known_ap (i:Nat) (f:List Int):∀ x ∈ apA i f,knownE x:=by
 intro x hx
 unfold apA at hx
 simp only [List.mem_cons,List.not_mem_nil,or_false] at hx
 rcases hx with rfl|rfl <;> trivial
theorem known_gone (ns:List Nm):∀ x ∈ goneN ns,knownE x:=by
 intro x hx
 obtain ⟨n,_,rfl⟩:=List.mem_map.1 hx
 trivial
theorem known_ad (nums:List Nat) (base:Nat):∀ x ∈ adA nums base,knownE x:=by
 intro x hx
 rcases List.mem_append.1 hx with hx|hx
 ·exact known_sw _ x hx
 ·rw [goneA_N] at hx
  exact known_gone _ x hx
theorem known_opM (base:Nat) (nums:List Nat) (begun:Bool):∀ x ∈ opM base nums begun,knownE x:=by
 intro x hx
 unfold opM at hx
 split at hx
 ·cases hx
 ·exact known_sw _ x hx
theorem known_opT (has:Bool):∀ x ∈ opT has,knownE x:=by
 intro x hx
 unfold opT at hx
 split at hx
 ·rw [List.mem_singleton.1 hx];trivial
 ·cases hx
theorem known_opC (torn:Bool) (i n:Nat):∀ x ∈ opC torn i n,knownE x:=by
 intro x hx
 unfold opC at hx
 split at hx
 ·simp only [List.mem_cons,List.not_mem_nil,or_false] at hx
  rcases hx with rfl|rfl <;> trivial
 ·cases hx
theorem known_app {a b:List Eff} (ha:∀ x ∈ a,knownE x) (hb:∀ x ∈ b,knownE x):∀ x ∈ a++b,knownE x:=by
 intro x hx
 rcases List.mem_append.1 hx with hx|hx
 ·exact ha x hx
 ·exact hb x hx
theorem Known.files {l:Fs} (h:Known (vw l)) (ha:Apart l):l.length≤102:=by
 have:=files_le ha (names:=nM :: nT :: (List.range 100).map seg) (fun n hn=>by
  rcases h n hn with h1|h1|⟨i,hi,h1⟩
  ·rw [h1];exact List.mem_cons_self
  ·rw [h1];exact List.mem_cons_of_mem _ List.mem_cons_self
  ·rw [h1];exact List.mem_cons_of_mem _ (List.mem_cons_of_mem _ (List.mem_map_of_mem (List.mem_range.2 hi))))
 simpa using this
structure Bk (S:St) (cap:Int) (nums:List Nat) (begun:Bool) (fr:Nat→List (List Rcd)):Prop where
 up:Up cap S
 back:Back (vw S.files) nums begun fr
 num:Nums nums
 ok:∀ i ∈ nums,∀ l ∈ fr i,okBody l∧∀ r ∈ l,Is r
 known:Known (vw S.files)
theorem Bk.low {S:St} {cap:Int} {nums:List Nat} {begun:Bool} {fr:Nat→List (List Rcd)} (h:Bk S cap nums begun fr):Low nums:=by
 obtain ⟨all,base,h1,h2,_⟩:=h.back.man
 intro i hi
 rw [h2] at hi
 exact h1.2.1 i (mem_kept hi)
def all (nums:List Nat) (fr:Nat→List (List Rcd)):List (List Rcd):=nums.flatMap fr
theorem all_app (a b:List Nat) (fr:Nat→List (List Rcd)):all (a++b) fr=all a fr++all b fr:=by simp [all]
theorem all_cong {nums:List Nat} {fr fr':Nat→List (List Rcd)} (h:∀ i ∈ nums,fr i=fr' i):all nums fr=all nums fr':=by
 unfold all
 induction nums with
 | nil=>rfl
 | cons i r ih =>
  rw [List.flatMap_cons,List.flatMap_cons,h i List.mem_cons_self,ih (fun k hk=>h k (List.mem_cons_of_mem _ hk))]
theorem all_bump {nums:List Nat} {fr:Nat→List (List Rcd)} {i:Nat} (hr:nums.Pairwise (· < ·)) (hi:nums.getLast?=some i) (l:List Rcd):all nums (bump fr i l)=all nums fr++[l]:=by
 have hne:nums≠[]:=by intro e;rw [e] at hi;cases hi
 have e:=List.dropLast_concat_getLast hne
 have hl:nums.getLast hne=i:=by rw [List.getLast?_eq_some_getLast hne] at hi;exact Option.some.inj hi
 rw [hl] at e
 rw [← e] at hr ⊢
 have hp:=List.pairwise_append.1 hr
 rw [all_app,all_app]
 rw [all_cong (nums:=nums.dropLast) (fr:=bump fr i l) (fr':=fr) (fun k hk=>bump_other fr l (fun e=>by have:=hp.2.2 k hk i (List.mem_singleton.2 rfl);omega))]
 simp [all,bump_same]
theorem all_next {nums:List Nat} {fr:Nat→List (List Rcd)} {k:Nat} (hk:∀ j ∈ nums,j≠k) (hf:fr k=[]):all (nums++[k]) fr=all nums fr:=by
 rw [all_app]
 simp [all,hf]
theorem all_more {nums:List Nat} {fr:Nat→List (List Rcd)} {k:Nat} (hk:∀ j ∈ nums,j≠k) (hf:fr k=[]) (l:List Rcd):all (nums++[k]) (bump fr k l)=all nums fr++[l]:=by
 rw [all_app,all_cong (nums:=nums) (fr:=bump fr k l) (fr':=fr) (fun j hj=>bump_other fr l (hk j hj))]
 simp [all,bump_same,hf]
end Go.Proofs.YtbhoknnjilidnaaGreatDoor.Seg
end

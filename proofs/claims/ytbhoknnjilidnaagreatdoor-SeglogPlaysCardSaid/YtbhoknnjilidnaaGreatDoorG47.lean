/- SeglogPlays: rows of frames' slices that stay, and what holds behind a log that was opened anew with another state's frames. SeglogPlays: what holds behind Adopt and Append: rows from one place on, and with one more. SeglogPlays: what holds behind Append. -/
import Derived.Test.YtbhoknnjilidnaaGreatDoorG46
set_option linter.unusedSimpArgs false
set_option linter.unusedVariables false
set_option maxHeartbeats 4000000
set_option maxRecDepth 100000
section
namespace Go.Proofs.YtbhoknnjilidnaaGreatDoor.Seg
open Go.Proofs.YtbhoknnjilidnaaGreatDoor.Mem
open Go.Proofs.YtbhoknnjilidnaaGreatDoor.Disk (Nm File St Has grow errV tot PlanOk planned opened)
open Go.Proofs.YtbhoknnjilidnaaGreatDoor.Rec (Rcd Recs Is okBody)
open Go.Proofs.YtbhoknnjilidnaaGreatDoor.Torn (Gp gcells gpl gpl_get Pcs Lists frames size piecesOf)
open Go.ChangeShapes Go.WideShapes Go.ChangeAt Go.RowKit
section
variable {w w0 w1 w':World} {p lb g c sb N0 k:Nat} {S T:St} {F F1 H H':Nat→Prop} {limit cap:Int} {nums ns:List Nat} {base:Nat} {begun b:Bool} {B:Int} {fr fr4:Nat→List (List Rcd)} {i L:Nat} {vz:Value} {a a' aq:Option Addr} {cp cp' cq:Nat} {ls ls':List Torn.Lg} {gs:List Gp} {ss:List Sp}
structure LRow (w0 w:World) (sb:Nat) (H:Nat→Prop) (a:Option Addr) (cp:Nat) (ls:List Torn.Lg):Prop where
 recs:∀ g ∈ ls,Recs w0 g.a g.l
 few:∀ g ∈ ls,g.l.length≤20
 lrow:0 < ls.length→∃ b off,a=some ⟨b,off,none⟩∧b < w.heap.size∧∀ i (h:i < ls.length),w.cell? ⟨b,off+i,none⟩=some (.slice ls[i].a ls[i].l.length ls[i].cap)
 lcap:ls.length≤cp∧cp≤maxLen
 lnil:a=none→cp=0
 lone:∀ q,a=some q→q.spot=none
 loff:∀ q,a=some q→w0.heap.size≤q.block∧q.block < w.heap.size∧q.block≠sb∧¬ H q.block
theorem Held.rows (h:Held w0 w sb H a cp ls B b aq cq ss):LRow w0 w sb H a cp ls:=⟨h.recs,h.few,h.lrow,h.lcap,h.lnil,h.lone,h.loff⟩
theorem Held.rows_front (h:Held w0 w sb H a cp ls B b aq cq ss) {m:Nat} (hm:m≤ls.length):LRow w0 w sb H a cp (ls.take m):=by
 have h1:=h.front m hm
 have hc:=h.lcap
 refine ⟨h1.1,h1.2.1,h1.2.2,⟨by rw [List.length_take];omega,hc.2⟩,h.lnil,h.lone,h.loff⟩
theorem LRow.step (h:LRow w0 w sb H a cp ls) (hb:But H w w') (hs:∀ j,H' j→H j∨w.heap.size≤j):LRow w0 w' sb H' a cp ls:=by
 have hz:=hb.size
 refine ⟨h.recs,h.few,fun hn=>?_,h.lcap,h.lnil,h.lone,fun q hq=>?_⟩
 ·obtain ⟨b',off,rfl,hlt,hc⟩:=h.lrow hn
  have ho:=h.loff _ rfl
  exact ⟨b',off,rfl,Nat.lt_of_lt_of_le hlt hz,fun i hi=>(hb.cell (p:=⟨b',off+i,none⟩) hlt ho.2.2.2).trans (hc i hi)⟩
 ·have ho:=h.loff q hq
  refine ⟨ho.1,Nat.lt_of_lt_of_le ho.2.1 hz,ho.2.2.1,fun h3=>?_⟩
  rcases hs _ h3 with h4|h4
  ·exact ho.2.2.2 h4
  ·omega
theorem LRow.new (h:LRow w0 w sb H a cp ls) (hb:Below w.heap.size w w'):LRow w0 w' sb H a cp ls:=h.step (But.of_new hb) (fun j hj => .inl hj)
theorem LRow.lists (h:LRow w0 w sb H a cp ls) (hb:Below w0.heap.size w0 w):Lists w a ls:=⟨fun g hg=>(h.recs g hg).below hb,h.lrow⟩
theorem Held.put (h:Held w0 w sb H a cp ls B b aq cq ss) {B':Int} {b':Bool} (hr:LRow w0 w sb H a' cp' ls'):Held w0 (store3 w sb (.slice a' ls'.length cp') (.int .i64 B') (.bool b')) sb H a' cp' ls' B' b' aq cq ss :=
 h.store hr.recs hr.few hr.lrow hr.lcap hr.lnil hr.lone hr.loff
theorem fell_pk (hS:SysAt w p lb T limit ns 0 begun (szs ns (only ns fr4)) false F g c vz) (hV:Lv T cap ns 0 begun (only ns fr4) L) (hH:Held w0 w sb (foot lb g vz F) a cp ls B b aq cq (allSpots ns fr4)) (hr:LRow w0 w sb (foot lb g vz F) a' cp' ls') (hls:ls'.map (·.l)=all ns fr4) (hL:L≤k+2) (hlk:ls'.length≤k+1) :
  Pk w0 (store3 w sb (.slice a' ls'.length cp') (.int .i64 (-1)) (.bool begun)) p sb limit cap k lb T ns 0 begun (only ns fr4) L F g c vz a' cp' ls' aq cq (allSpots ns fr4) :=
 ⟨hS.store hH.sboff _ _ _,hV,hL,fun h=>absurd rfl h,by rw [only_base];exact hH.put hr,(spots_only ns fr4).symm,by rw [all_only];exact hls,hlk⟩
theorem as_row (hS:SysAt w p lb T limit nums base begun (szs nums fr) false F g c vz) {ap:Option Addr} {cpp:Nat} (hP:Pcs w ap gs) (hgs:gs.map (·.p)=allPieces ns fr4) (hall:all ns fr4=ls.map (·.l)) (hfew0:∀ g ∈ ls,g.l.length≤20) (hll:ls.length≤1000) (hr:LRow w0 w sb H a' cp' ls') (hb:Below w0.heap.size w0 w) (hll':ls'.length≤1000) (b':Bool) :
  Calls Tryz.prog 21 #[.pointer (some ⟨lb,0,none⟩),.slice ap gs.length cpp,stV a' ls'.length cp' (-1) b'] w fun e w'=>e = .returned (.bool (decide (ls.map (·.l)=ls'.map (·.l)) && (begun == b')))∧Below w.heap.size w w':=by
 have hpt:=pieces_told (gs:=gs) (ls':=ls) hall.symm hgs hfew0
 have h:=as_any (cp:=cpp) (cap:=cp') hS hP (by have:=hpt.2.1;omega) hpt.2.2 (hr.lists hb) (by omega) (fun g hg=>by have:=hr.few g hg;omega) (-1) b'
 rw [hpt.1] at h
 exact h
theorem opened_all (h:LRow w0 w sb H a cp ls) (b:Bool) (V:World) :
  Calls Tryz.prog 20 #[stV a ls.length cp (ls.length:Int) b] V fun e w'=>e = .returned (stV a ls.length cp (-1) b)∧Below V.heap.size V w':=by
 have hc:=h.lcap
 have hm:cp≤9223372036854775807:=by have:=hc.2;unfold maxLen at this;omega
 rcases a with _|⟨g1,off,sp⟩
 ·have hcp:=h.lnil rfl
  have hl0:ls.length=0:=by omega
  rw [hcp,hl0]
  exact opened_none b V
 ·have hsp:sp=none:=h.lone _ rfl
  subst hsp
  exact opened_yes g1 off ls.length cp _ b (by omega) hm V
end
end Go.Proofs.YtbhoknnjilidnaaGreatDoor.Seg
end
section
namespace Go.Proofs.YtbhoknnjilidnaaGreatDoor.Seg
open Go.Proofs.YtbhoknnjilidnaaGreatDoor.Mem
open Go.Proofs.YtbhoknnjilidnaaGreatDoor.Disk (Nm File St Has grow errV tot PlanOk planned opened)
open Go.Proofs.YtbhoknnjilidnaaGreatDoor.Rec (Rcd Recs Is okBody)
open Go.Proofs.YtbhoknnjilidnaaGreatDoor.Torn (Gp gcells gpl gpl_get Pcs Lists frames size piecesOf)
open Go.ChangeShapes Go.WideShapes Go.ChangeAt Go.RowKit
theorem done_six_eq2 (g off n:Nat) (hc:n≤9223372036854775807) (b:Bool) (what:Int) (hw:pickN what=6) (h1 : -9223372036854775808≤what) (h2:what≤9223372036854775807) (a1:Option Addr) (n1 c1:Nat) (dn:Bool) (ef kp:Int) (w:World) :
  Calls Tryz.prog 11 #[stV (some ⟨g,off,none⟩) n n (n:Int) b,deedV what a1 n1 c1 dn ef kp] w fun e w'=>e = .returned (.tuple #[stV (some ⟨g,off,none⟩) 0 0 (-1) false,.int .i64 0])∧Below w.heap.size w w':=by
 unfold stV deedV
 have hp:=pick_any what h1 h2
 rw [hw] at hp
 have HP:=Lib.hid hp
 clear hp hw h1 h2
 go_enter Tryz.func11,Tryz.ntmps11
 go_wp2_with fail
 refine (HP.out _).mono ?_
 rintro e w' ⟨rfl,rfl⟩
 go_wp2
 exact bodyPost_ret (Rec.results_row_tmp rfl _ _ (w.heap.size+2) 36 _ (0,0) _ rfl (heap_in3 w _ _ _) Tryz.underlying36 rfl st_size) rfl ⟨rfl,below_in3 w _ _ _⟩
theorem done_six_none2 (b:Bool) (what:Int) (hw:pickN what=6) (h1 : -9223372036854775808≤what) (h2:what≤9223372036854775807) (a1:Option Addr) (n1 c1:Nat) (dn:Bool) (ef kp:Int) (w:World) :
  Calls Tryz.prog 11 #[stV none 0 0 0 b,deedV what a1 n1 c1 dn ef kp] w fun e w'=>e = .returned (.tuple #[stV none 0 0 (-1) false,.int .i64 0])∧Below w.heap.size w w':=by
 unfold stV deedV
 have hp:=pick_any what h1 h2
 rw [hw] at hp
 have HP:=Lib.hid hp
 clear hp hw h1 h2
 go_enter Tryz.func11,Tryz.ntmps11
 go_wp2_with fail
 refine (HP.out _).mono ?_
 rintro e w' ⟨rfl,rfl⟩
 go_wp2
 exact bodyPost_ret (Rec.results_row_tmp rfl _ _ (w.heap.size+2) 36 _ (0,0) _ rfl (heap_in3 w _ _ _) Tryz.underlying36 rfl st_size) rfl ⟨rfl,below_in3 w _ _ _⟩
section
variable {w w0 w1 w' W:World} {p lb g c sb N0 k:Nat} {S T:St} {F F1 H H':Nat→Prop} {limit cap:Int} {nums ns:List Nat} {base:Nat} {begun b:Bool} {B:Int} {fr fr4:Nat→List (List Rcd)} {i L:Nat} {vz:Value} {a a' aq:Option Addr} {cp cp' cq:Nat} {ls ls':List Torn.Lg} {gs:List Gp} {ss:List Sp}
theorem LRow.but {P:Nat→Prop} (h:LRow w0 w sb H a cp ls) (hb:But P w w') (hP:∀ q,a=some q→¬ P q.block):LRow w0 w' sb H a cp ls:=by
 have hz:=hb.size
 refine ⟨h.recs,h.few,fun hn=>?_,h.lcap,h.lnil,h.lone,fun q hq=>?_⟩
 ·obtain ⟨b',off,rfl,hlt,hc⟩:=h.lrow hn
  exact ⟨b',off,rfl,Nat.lt_of_lt_of_le hlt hz,fun i hi=>(hb.cell (p:=⟨b',off+i,none⟩) hlt (hP ⟨b',off,none⟩ rfl)).trans (hc i hi)⟩
 ·have ho:=h.loff q hq
  exact ⟨ho.1,Nat.lt_of_lt_of_le ho.2.1 hz,ho.2.2.1,ho.2.2.2⟩
theorem done_adopt (h:LRow w0 W sb H a cp ls) {nb:Nat} (hnb:nb≤ls.length) {B:Int} (hB:B=(nb:Int)) (b:Bool) (what:Int) (hw:pickN what=6) (h1 : -9223372036854775808≤what) (h2:what≤9223372036854775807) (a1:Option Addr) (n1 c1:Nat) (dn:Bool) (ef kp:Int) (V:World) :
  Calls Tryz.prog 11 #[stV a ls.length cp B b,deedV what a1 n1 c1 dn ef kp] V fun e w'=>(∃ aN nN cN,e = .returned (.tuple #[stV aN nN cN (-1) false,.int .i64 0])∧nN=(ls.drop nb).length∧LRow w0 W sb H aN cN (ls.drop nb))∧Below V.heap.size V w':=by
 subst hB
 have hc:=h.lcap
 have hmx:cp≤9223372036854775807:=by have:=hc.2;unfold maxLen at this;omega
 have hld:(ls.drop nb).length=ls.length - nb:=List.length_drop
 have hre:∀ g ∈ ls.drop nb,Recs w0 g.a g.l:=fun g hg=>h.recs g (List.mem_of_mem_drop hg)
 have hfe:∀ g ∈ ls.drop nb,g.l.length≤20:=fun g hg=>h.few g (List.mem_of_mem_drop hg)
 rcases a with _|⟨g1,off,sp⟩
 ·have hcp:=h.lnil rfl
  have hl0:ls.length=0:=by omega
  have hm0:nb=0:=by omega
  rw [hcp,hl0,hm0]
  refine (done_six_none2 b what hw h1 h2 a1 n1 c1 dn ef kp V).mono ?_
  rintro e w' ⟨rfl,hb⟩
  refine ⟨⟨none,0,0,rfl,by rw [hm0] at hld;omega,⟨by rw [← hm0];exact hre,by rw [← hm0];exact hfe,fun hn=>by rw [hm0] at hld;omega,⟨by rw [hm0] at hld;omega,Nat.zero_le _⟩,fun _=>rfl,fun _ e=>by (cases e),fun _ e=>by cases e⟩⟩,hb⟩
 ·have hsp:sp=none:=h.lone _ rfl
  subst hsp
  have ho:=h.loff _ rfl
  by_cases hlt:nb < cp
  ·refine (done_six_lt g1 off ls.length cp nb hnb hlt hc.1 hmx b what hw h1 h2 a1 n1 c1 dn ef kp V).mono ?_
   rintro e w' ⟨rfl,hb⟩
   refine ⟨⟨_,_,_,rfl,hld.symm,⟨hre,hfe,fun hn=>?_,⟨by omega,by omega⟩,fun e=>by (cases e),fun q e=>by (cases e;rfl),fun q e=>by cases e;exact ho⟩⟩,hb⟩
   obtain ⟨b',off',ha,hlt',hcl⟩:=h.lrow (by omega)
   injection ha with ha
   injection ha with e1 e2
   subst e1;subst e2
   refine ⟨g1,off+nb,rfl,hlt',fun j hj=>?_⟩
   have:=hcl (nb+j) (by omega)
   rw [show off+nb+j=off+(nb+j) by omega,List.getElem_drop]
   exact this
  ·have hn:nb=cp:=by omega
   have hl:ls.length=cp:=by omega
   rw [hl,hn]
   refine (done_six_eq2 g1 off cp hmx b what hw h1 h2 a1 n1 c1 dn ef kp V).mono ?_
   rintro e w' ⟨rfl,hb⟩
   rw [hn] at hld hre hfe
   exact ⟨⟨_,_,_,rfl,by omega,⟨hre,hfe,fun hn=>by omega,⟨by omega,Nat.zero_le _⟩,fun e=>by (cases e),fun q e=>by (cases e;rfl),fun q e=>by cases e;exact ho⟩⟩,hb⟩
theorem Held.respot (h:Held w0 w sb H a cp ls B b aq cq ss) {aq':Option Addr} {cq':Nat} {ss':List Sp} (h1:Spts w aq' ss') (h2:ss'.length≤cq'∧cq'≤maxLen) (h3:aq'=none→cq'=0) (h4:∀ q,aq'=some q→q.spot=none) (h5:∀ q,aq'=some q→w0.heap.size≤q.block∧q.block < w.heap.size∧q.block≠sb∧¬ H q.block):Held w0 w sb H a cp ls B b aq' cq' ss' :=
 ⟨h.state,h.sboff,h.below,h.newer,h.lt,h.sbnew,h.recs,h.few,h.lrow,h.lcap,h.lnil,h.lone,h.loff,h1,h2,h3,h4,h5⟩
theorem Held.sdrop {g1 off:Nat} (h:Held w0 w sb H a cp ls B b (some ⟨g1,off,none⟩) cq ss) {m:Nat} (hm:m≤ss.length):Held w0 w sb H a cp ls B b (some ⟨g1,off+m * 3,none⟩) (cq - m) (ss.drop m):=by
 have hc:=h.scap
 have ho:=h.soff _ rfl
 refine h.respot (spts_drop h.spots hm) ⟨by rw [List.length_drop];omega,by omega⟩ (fun e=>by (cases e)) (fun q e=>by (cases e;rfl)) (fun q e=>by cases e;exact ho)
theorem Held.snone {g1 off:Nat} (h:Held w0 w sb H a cp ls B b (some ⟨g1,off,none⟩) cq ss):Held w0 w sb H a cp ls B b (some ⟨g1,off,none⟩) 0 []:=by
 have ho:=h.soff _ rfl
 refine h.respot (fun hn=>absurd hn (by simp)) ⟨Nat.le_refl _,Nat.zero_le _⟩ (fun e=>by (cases e)) (fun q e=>by (cases e;rfl)) (fun q e=>by cases e;exact ho)
theorem adopt_pk (hS:SysAt w p lb T limit (from_ base nums) 0 false (szs (from_ base nums) fr) false F g c vz) (hV:Lv T cap (from_ base nums) 0 false fr i) (hr:nums.Pairwise (· < ·)) (hH:Held w0 w sb (foot lb g vz F) a cp ls B b aq cq ss) (hss:ss=allSpots (from_ base nums) fr) (hls:ls.map (·.l)=all nums fr) {nb:Nat} (hnb:nb=(all (below base nums) fr).length) (hx:LRow w0 w sb (foot lb g vz F) a' cp' (ls.drop nb)) (hik:i≤k+1) (hlk:ls.length≤k) :
  Pk w0 (store3 w sb (.slice a' (ls.drop nb).length cp') (.int .i64 (-1)) (.bool false)) p sb limit cap k lb T (from_ base nums) 0 false fr i F g c vz a' cp' (ls.drop nb) aq cq ss :=
 ⟨hS.store hH.sboff _ _ _,hV,by omega,fun h=>absurd rfl h,by rw [only_base];exact hH.put hx,hss,by rw [hnb];exact (all_from hr hls).1,by rw [List.length_drop];omega⟩
end
end Go.Proofs.YtbhoknnjilidnaaGreatDoor.Seg
end
section
namespace Go.Proofs.YtbhoknnjilidnaaGreatDoor.Seg
open Go.Proofs.YtbhoknnjilidnaaGreatDoor.Mem
open Go.Proofs.YtbhoknnjilidnaaGreatDoor.Disk (Nm File St Has grow errV tot PlanOk planned opened)
open Go.Proofs.YtbhoknnjilidnaaGreatDoor.Rec (Rcd Recs Is okBody)
open Go.Proofs.YtbhoknnjilidnaaGreatDoor.Torn (Gp gcells gpl gpl_get Pcs Lists frames size piecesOf)
open Go.ChangeShapes Go.WideShapes Go.ChangeAt Go.RowKit
section
variable {w w0 w1 w' W:World} {p lb g c sb N0 k x:Nat} {S T:St} {F F1 H H':Nat→Prop} {limit cap:Int} {nums ns nums1:List Nat} {base:Nat} {begun b:Bool} {B:Int} {fr fr4 fr1:Nat→List (List Rcd)} {i L i1 at_:Nat} {vz:Value} {a a' aq:Option Addr} {cp cp' cq:Nat} {ls ls':List Torn.Lg} {gs:List Gp} {ss:List Sp}
theorem Held.off (h:Held w0 w sb H a cp ls B b aq cq ss) (hb:But (fun j=>j=x) w w') (h0:w0.heap.size≤x) (hs:sb≠x) (hH:¬ H x) (ha:∀ q,a=some q→q.block≠x) (hq:∀ q,aq=some q→q.block≠x):Held w0 w' sb H a cp ls B b aq cq ss:=by
 have hz:=hb.size
 have hsz:=h.below.size
 refine ⟨h.state.but hb hs,h.sboff,h.below.trans (hb.below hsz (fun j hj=>by omega)),h.newer,fun j hj=>Nat.lt_of_lt_of_le (h.lt j hj) hz,h.sbnew,h.recs,h.few,fun hn=>?_,h.lcap,h.lnil,h.lone,fun q hq'=>?_,fun hn=>?_,h.scap,h.snil,h.sone,fun q hq'=>?_⟩
 ·obtain ⟨b',off,rfl,hlt,hc⟩:=h.lrow hn
  exact ⟨b',off,rfl,Nat.lt_of_lt_of_le hlt hz,fun i hi=>(hb.cell (p:=⟨b',off+i,none⟩) hlt (ha ⟨b',off,none⟩ rfl)).trans (hc i hi)⟩
 ·have ho:=h.loff q hq'
  exact ⟨ho.1,Nat.lt_of_lt_of_le ho.2.1 hz,ho.2.2⟩
 ·obtain ⟨b',off,rfl,hlt,hc⟩:=h.spots hn
  exact ⟨b',off,rfl,Nat.lt_of_lt_of_le hlt hz,fun i hi j u hu=>(hb.cell (p:=⟨b',off+i * 3+j,none⟩) hlt (hq ⟨b',off,none⟩ rfl)).trans (hc i hi j u hu)⟩
 ·have ho:=h.soff q hq'
  exact ⟨ho.1,Nat.lt_of_lt_of_le ho.2.1 hz,ho.2.2⟩
theorem app_row {g2 c2:Nat} {y:Torn.Lg} (h:Held w0 W sb H a cp ls B b aq cq ss) (hV:W.heap.size≤w.heap.size) (hL:Lists w' (some ⟨g2,0,none⟩) (ls++[y])) (hg:w.heap.size≤g2) (hc:ls.length+1≤c2) (hm:c2≤maxLen) (hrx:Recs w0 y.a y.l) (hfx:y.l.length≤20):LRow w0 w' sb H (some ⟨g2,0,none⟩) c2 (ls++[y]):=by
 have hsb:=h.state.lt
 have hz:=h.below.size
 obtain ⟨b',off,e,hlt,_⟩:=hL.2 (by simp)
 injection e with e
 injection e with e1 e2
 refine ⟨fun g hg'=>?_,fun g hg'=>?_,hL.2,⟨by rw [List.length_append];exact hc,hm⟩,fun e=>by (cases e),fun q e=>by (cases e;rfl),fun q e=>?_⟩
 ·rcases List.mem_append.1 hg' with h1|h1
  ·exact h.recs g h1
  ·rw [List.mem_singleton.1 h1];exact hrx
 ·rcases List.mem_append.1 hg' with h1|h1
  ·exact h.few g h1
  ·rw [List.mem_singleton.1 h1];exact hfx
 ·cases e
  exact ⟨by show w0.heap.size≤g2;omega,by show g2 < w'.heap.size;omega,by show g2≠sb;omega,fun h1=>by have:=h.lt _ h1;simp only at this;omega⟩
theorem spts_sees {w:World} {a:Option Addr} {ss:List Sp} {cap:Nat} (h:Spts w a ss) (hn:a=none→cap=0):Sees w 3 (.slice a ss.length cap) ss.length (spl ss):=by
 rcases a with _|q
 ·rcases Nat.eq_zero_or_pos ss.length with h0|h0
  ·have hz:ss=[]:=List.eq_nil_of_length_eq_zero h0
   subst hz
   rw [hn rfl]
   exact .inl ⟨rfl,rfl,rfl⟩
  ·obtain ⟨b,off,hq,_⟩:=h h0
   cases hq
 ·refine .inr ⟨q,cap,rfl,spl_length ss,fun j u hu=>?_⟩
  have hj:j < ss.length * 3:=by rw [← spl_length];exact (List.getElem?_eq_some_iff.1 hu).1
  obtain ⟨b,off,hq,hlt,hc⟩:=h (by omega)
  injection hq with hq
  subst hq
  refine ⟨hlt,?_⟩
  rw [add_none]
  have e:j=(j / 3) * 3+j % 3:=by omega
  rw [e,spl_get ss (j / 3) (j % 3) (by omega) (by omega)] at hu
  have:=hc (j / 3) (by omega) (j % 3) u hu
  rw [show off+j=off+j / 3 * 3+j % 3 by omega]
  exact this
theorem Held.spot1 {base_:Nat} {e:TypeId} {aS:Option Addr} {cS:Nat} {s:Sp} (h:Held w0 W sb H a cp ls B b aq cq ss) (hb:Below W.heap.size W w') (ho:w'.ownsRow W.heap.size e 3 (.slice aS (ss.length+1) cS) (ss.length+1) (spl ss++spc s)):Held w0 w' sb H a cp ls B b aS cS (ss++[s]):=by
 have h1:=h.new hb
 have hl:(ss++[s]).length=ss.length+1:=by simp
 have hsz:=h.below.size
 have hsb:=h.state.lt
 rw [← hl,← spl_snoc] at ho
 have hf:=own_facts ho
 refine h1.respot (spts_of_own ho) ⟨hf.2.1,hf.2.2.1⟩ hf.1 (fun q hq=>(hf.2.2.2 q hq).2.2.1) (fun q hq=>?_)
 have h2:=hf.2.2.2 q hq
 exact ⟨by omega,h2.2.1,by omega,fun h3=>by have:=h.lt _ h3;omega⟩
theorem appended_all {l:List Rcd} (hV:Lv S cap nums base begun fr i) (hA:Appended nums fr i l nums1 fr1 i1 at_):all nums1 fr1=all nums fr++[l]∧allSpots nums1 fr1=allSpots nums fr++[⟨i1,at_,size l⟩]∧i1≤i+1∧baseN base nums1 fr1=baseN base nums fr:=by
 have hmax:=max_last hV.lg.num.rising hV.last
 have hb:=hV.base_
 rcases hA with ⟨rfl,rfl,rfl,rfl⟩|⟨rfl,rfl,rfl,rfl⟩
 ·refine ⟨all_bump hV.lg.num.rising hV.last l,spots_bump hV.lg.num.rising hV.last l,by omega,?_⟩
  unfold baseN
  split
  ·rfl
  ·rw [all_cong (nums:=below base nums1) (fr':=fr) (fun j hj=>bump_other fr l (fun e=>by have:=(mem_below.1 hj).2;omega))]
 ·have hne:∀ j ∈ nums,j≠i+1:=fun j hj e=>by have:=hmax j hj;omega
  have hf:=hV.next (i+1) (by omega)
  refine ⟨all_more hne hf l,spots_more hne hf l,by omega,?_⟩
  unfold baseN
  split
  ·rfl
  ·have e:below base (nums++[i+1])=below base nums:=by
    unfold below
    rw [List.filter_append]
    have:¬ (i+1 < base):=by omega
    simp [this]
   rw [e,all_cong (nums:=below base nums) (fr':=fr) (fun j hj=>bump_other fr l (fun e=>by have:=(mem_below.1 hj).2;omega))]
theorem append_pk {l:List Rcd} {y:Torn.Lg} (hy:y.l=l) (hV:Lv S cap nums base begun fr i) (hA:Appended nums fr i l nums1 fr1 i1 at_) (hS1:SysAt w p lb T limit nums1 base begun (szs nums1 fr1) false F g c vz) (hV1:Lv T cap nums1 base begun fr1 i1) (hH:Held w0 w sb (foot lb g vz F) a cp ls (baseN base nums fr) begun aq cq (allSpots nums fr++[⟨i1,at_,size l⟩])) (hx:LRow w0 w sb (foot lb g vz F) a' cp' (ls++[y])) (hls:ls.map (·.l)=all nums fr) (hik:i≤k+1) (hbb:base≠0→begun=true) (hlk:ls.length≤k) :
  Pk w0 (store3 w sb (.slice a' (ls++[y]).length cp') (.int .i64 (baseN base nums fr)) (.bool begun)) p sb limit cap k lb T nums1 base begun fr1 i1 F g c vz a' cp' (ls++[y]) aq cq (allSpots nums fr++[⟨i1,at_,size l⟩]):=by
 have h:=appended_all hV hA
 refine ⟨hS1.store hH.sboff _ _ _,hV1,by omega,hbb,?_,h.2.1.symm,?_,by rw [List.length_append];simp;omega⟩
 ·rw [h.2.2.2];exact hH.put hx
 ·rw [h.1,List.map_append,hls,← hy];rfl
theorem opened_app {g2 c2:Nat} {y:Torn.Lg} (hV:Lv S cap nums base begun fr i) (hls:ls.map (·.l)=all nums fr) (hc:(ls++[y]).length≤c2∧c2≤maxLen) (b:Bool):∃ nB:Nat,∀ V,Calls Tryz.prog 20 #[stV (some ⟨g2,0,none⟩) (ls.length+1) c2 (baseN base nums fr) b] V fun e w'=>e = .returned (stV (some ⟨g2,0,none⟩) nB c2 (-1) b)∧Below V.heap.size V w':=by
 have hm:c2≤9223372036854775807:=by have:=hc.2;unfold maxLen at this;omega
 have hl:(ls++[y]).length=ls.length+1:=by simp
 by_cases h0:base=0
 ·subst h0
  rw [only_base]
  exact ⟨_,fun V=>opened_no _ _ _ (-1) b (by omega) V⟩
 ·have hb:=(all_from (base:=base) hV.lg.num.rising hls).2.1
  have e:baseN base nums fr=((all (below base nums) fr).length:Int):=by unfold baseN;rw [if_neg h0]
  rw [e]
  exact ⟨_,fun V=>opened_yes g2 0 (ls.length+1) c2 _ b (by omega) hm V⟩
end
end Go.Proofs.YtbhoknnjilidnaaGreatDoor.Seg
end

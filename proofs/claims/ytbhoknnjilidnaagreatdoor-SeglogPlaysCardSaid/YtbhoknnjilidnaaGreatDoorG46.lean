/- The head of the statements of layer 8: the document's example holds. Contracts: what is done with a log's disk by the law itself; what a play's log is from deed to deed. SeglogPlays: its deeds, what holds at the head of its loop, the loop's body. What the law holds: behind an Open; its state stored anew. SeglogPlays: the ends of its loop's rounds. SeglogPlays: what holds behind a deed, as one structure: what is opened, read, and told of it; behind Begin, Adopt and Append. -/
import Derived.Test.YtbhoknnjilidnaaGreatDoorG42
import Derived.Handy
import Derived.Test.YtbhoknnjilidnaaGreatDoorG45
set_option linter.unusedSimpArgs false
set_option linter.unusedVariables false
set_option maxHeartbeats 2000000
set_option maxRecDepth 100000
section
namespace Go.Proofs.YtbhoknnjilidnaaGreatDoor.Seg
open Go.Proofs.YtbhoknnjilidnaaGreatDoor.Mem
open Go.Proofs.YtbhoknnjilidnaaGreatDoor.Disk (Nm File St Eff Has grow errV used run tot)
open Go.Proofs.YtbhoknnjilidnaaGreatDoor.Rec (Rcd Recs Is okBody)
open Go.Proofs.YtbhoknnjilidnaaGreatDoor.Frame (frm)
open Go.Proofs.YtbhoknnjilidnaaGreatDoor.Torn (Gp gcells gpl Pcs frames size scan total piecesOf ex ex_ok ex_is ex_all ex_size)
open Go.ChangeShapes Go.WideShapes Go.ChangeAt Go.RowKit
section
variable {w w1 w2 W W':World}
theorem open_low (a:Value) (limit:Int) (hl:limit < 100) (w:World) :
  Calls Tryz.prog 6 #[a,.int .i64 limit] w fun e w'=>e = .returned (.tuple #[.pointer none,.slice none 0 0,.slice none 0 0,.iface 33 (.int .i64 1)])∧w=w':=by
 have t1:decide (limit < 100)=true:=decide_eq_true (by omega)
 clear hl
 go_enter Tryz.func6,Tryz.ntmps6
 go_wp2_with fail
 go_returns
 exact ⟨rfl,rfl⟩
theorem drop_one (w:World) :
  Calls Tryz.prog 19 #[.int .u32 1] w fun e w'=>∃ a cap,e = .returned (.slice a 1 cap)∧Recs w' a [ex]∧Below w.heap.size w w':=by
 go_enter Tryz.func19,Tryz.ntmps19
 go_wp2_with fail
 go_ret
 refine ⟨_,_,rfl,⟨ex_all,fun _=>⟨_,_,rfl,by simp,fun i hi j u hu=>?_⟩⟩,(Below.refl _ w).alloc (Nat.le_refl _) _⟩
 have hi0:i=0:=by have:i < 1:=hi;omega
 subst hi0
 simp only [Nat.zero_mul,Nat.zero_add]
 rw [World.cell?_alloc_mark]
 exact hu
theorem mine_kept {B lb g g1:Nat} {F F1:Nat→Prop} {vz vz1:Value} (h:KeptG w w1 lb g F F1 vz g1 vz1) (hm:∀ k,foot lb g vz F k→B≤k) (hB:B≤w.heap.size):Below B w w1∧∀ k,foot lb g1 vz1 F1 k→B≤k:=by
 refine ⟨h.but.below hB (fun k hk=>hm k ?_),fun k hk=>?_⟩
 ·rcases hk with h1|h1|h1
  ·exact .inl h1
  ·exact .inr (.inl h1)
  ·exact .inr (.inr (.inr h1))
 ·rcases hk with h1|h1|h1|h1
  ·rcases h.sub k h1 with h2|h2
   ·exact hm k (.inl h2)
   ·omega
  ·exact hm k (.inr (.inl h1))
  ·rcases h.gs with h2|h2
   ·exact hm k (.inr (.inr (.inl (h1.trans h2))))
   ·omega
  ·rcases h.own k h1 with h2|h2
   ·exact hm k (.inr (.inr (.inr h2)))
   ·omega
theorem ex_frames:frames [[ex]]=frm (Rec.body [ex]):=by simp [frames]
theorem up_any (w:World) :
  Calls Tryz.prog 4 #[] w fun e w'=>e = .returned (.bool true)∧Below w.heap.size w w':=by
 go_enter Tryz.func4,Tryz.ntmps4
 go_wp2_with fail
 refine (dsk_fresh 1000 (by omega) _).mono ?_
 rintro e w1 ⟨p,rfl,hD,hB1⟩
 have c2:=open_fresh hD (limit:=100) (by omega) (by omega) (by omega)
 have HB1:=Lib.hid hB1
 clear hD hB1
 go_wp2_with fail
 refine c2.mono ?_
 clear c2
 rintro e w2 ⟨T,lb,F1,g,c,vz,ap,cp,aq,cq,rfl,hS,hL,hpl,htot,hft,hbt⟩
 have HM2:=Lib.hid (show ∀ k,foot lb g vz F1 k→w.heap.size≤k from fun k hk=>by
  have hz:=HB1.out.size
  rcases hft k hk with (h1|h1)|h1
  ·exact h1.elim
  ·exact h1.1
  ·omega)
 have hB2:=hbt.below HB1.out.size (fun k hk=>hk.elim (fun h=>h.elim) (fun h=>h.1))
 have HB2:=Lib.hid (HB1.out.trans hB2)
 have HS2:=Lib.hid (And.intro hS (And.intro hL (And.intro hpl htot)))
 clear hS hL hpl htot hft hbt hB2 HB1
 go_wp2_with fail
 refine (open_low _ 99 (by omega) _).mono ?_
 rintro e w' ⟨rfl,rfl⟩
 go_wp2_with fail
 refine (drop_one _).mono ?_
 rintro e w3 ⟨a,cap,rfl,hr3,hb3⟩
 have hS3:=HS2.out.1.below hb3
 have c4:=append_log hS3 HS2.out.2.1 HS2.out.2.2.1 (i:=1) rfl (cp:=cap) hr3 (by simp) ex_ok (by simp) (by omega) (by have:=HS2.out.2.2.2;have:=ex_size;simp;omega) (by omega) rfl (by omega)
 have HB3:=Lib.hid (HB2.out.trans (hb3.mono HB2.out.size))
 clear hr3 hb3 hS3
 go_wp2_with fail
 refine c4.mono ?_
 clear c4
 have hro:¬ rot 100 (frames []).length (size [ex]):=fun h=>absurd h.1 (by simp [frames])
 rintro e w4 ⟨T4,F4,g4,c4,vz4,rfl,hK4,hS4,hL4,hpl4,htot4,-⟩
 have e1:numsA 100 [1] (fun _=>[]) 1 [ex]=[1]:=if_neg hro
 have e2:frA 100 (fun _=>[]) 1 [ex]=bump (fun _=>[]) 1 [ex]:=if_neg hro
 have e3:lastA 100 (fun _=>[]) 1 [ex]=1:=if_neg hro
 have e4:atA 100 (fun _=>[]) 1 [ex]=0:=by unfold atA;rw [if_neg hro];rfl
 rw [e1,e2] at hS4 hL4
 rw [e3,e4,ex_size]
 unfold spV
 have hb4:=mine_kept hK4 HM2.out HB3.out.size
 have HB4:=Lib.hid (HB3.out.trans hb4.1)
 have HS4:=Lib.hid (And.intro hS4 hL4)
 clear hro e1 e2 e3 e4 hS4 hL4 hpl4 htot4 hK4 hb4
 go_wp2_with fail
 have hbx:=(Below.refl _ w4).alloc (Nat.le_refl _) (.cells #[.int .i64 1,.int .i64 0,.int .i64 14] 47)
 have hlk:Disk.look (seg 1) T4.files=some (full (frames [[ex]])):=HS4.out.2.inv.segs 1 (List.mem_singleton.2 rfl)
 have hfl:(full (frames [[ex]])).bytes.length=14:=by show (frames [[ex]]).length=14;rw [ex_frames,Torn.frm_size,ex_size]
 have hsc:scan 0 (((full (frames [[ex]])).bytes.drop 0).take 14)=[⟨0,14,[ex]⟩]:=by
  show scan 0 (((frames [[ex]]).drop 0).take 14)=_
  have hfl2:(frames [[ex]]).length=14:=hfl
  rw [List.drop_zero,List.take_of_length_le (Nat.le_of_eq hfl2)]
  have h1:=(scan_all (ls:=[[ex]]) (tail:=[]) (fun l hl=>by rw [List.mem_singleton.1 hl];exact ⟨ex_ok,ex_all⟩) 0 Torn.one_nil).1
  rw [List.append_nil] at h1
  rw [h1]
  show [(⟨0,size [ex],[ex]⟩:Torn.Pc)]=_
  rw [ex_size]
 have c5:=read_log (i:=1) (at_:=0) (len:=14) (HS4.out.1.below hbx) HS4.out.2.up.up (List.mem_singleton.2 rfl) (by omega) (by simp) hlk (by rw [hfl];omega) hsc
 unfold spV at c5
 have HB5:=Lib.hid (HB4.out.trans (hbx.mono HB4.out.size))
 have HS5:=Lib.hid (HS4.out.1.below hbx)
 obtain ⟨W,hW⟩:∃ W,W=w4.alloc (.cells #[.int .i64 1,.int .i64 0,.int .i64 14] 47):=⟨_,rfl⟩
 rw [← hW] at c5 HB5 HS5 ⊢
 clear hbx hlk hfl hsc hW HB4 HS4
 refine c5.mono ?_
 clear c5
 rintro e w5 ⟨a5,cap5,rfl,-,hb5⟩
 have HS6:=Lib.hid (HS5.out.below hb5)
 have HB6:=Lib.hid (HB5.out.trans (hb5.mono HB5.out.size))
 have HBY:=Lib.hid (bytes_log HS6.out Nat.one_pos (by rw [szs_length];simp) (fun z hz=>by rw [List.mem_singleton.1 (show z ∈ [(frames [[ex]]).length] from hz),ex_frames,Torn.frm_size,ex_size];omega))
 have HSG:=Lib.hid (segments_log HS6.out (by simp))
 have hsum:(szs [1] (bump (fun _=>[]) 1 [ex])).sum=14:=by
  show (frames [[ex]]).length+0=14
  rw [ex_frames,Torn.frm_size,ex_size]
 rw [hsum] at HBY
 have q1:=Err.code_eql 1 1 w5
 clear hsum HB5 HS5 hb5
 go_wp2_with fail
 refine HBY.out.mono ?_
 rintro e w' ⟨rfl,rfl⟩
 have e14:((14:Nat):Int)=14:=rfl
 rw [e14]
 go_wp2_with fail
 refine HSG.out.mono ?_
 rintro e w6 ⟨v6,rfl,ho6,hb6⟩
 obtain ⟨g6,c6,rfl⟩:∃ g6 c6,v6 = .slice (some ⟨g6,0,none⟩) 1 c6:=by
  rcases ho6.2 with ⟨_,h2⟩|⟨gz,cz,_,h2,_⟩
  ·cases h2
  ·exact ⟨gz,cz,h2⟩
 have HB7:=Lib.hid (HB6.out.trans (hb6.mono HB6.out.size))
 clear ho6 hb6 q1 HBY HSG
 go_wp2_with fail
 go_ret
 exact ⟨rfl,HB7.out⟩
end
end Go.Proofs.YtbhoknnjilidnaaGreatDoor.Seg
end
section
namespace Go.Proofs.YtbhoknnjilidnaaGreatDoor.Seg
open Go.Proofs.YtbhoknnjilidnaaGreatDoor.Mem
open Go.Proofs.YtbhoknnjilidnaaGreatDoor.Disk (Nm File St Has grow errV tot PlanOk planned opened)
open Go.Proofs.YtbhoknnjilidnaaGreatDoor.Rec (Rcd Recs Is okBody)
open Go.Proofs.YtbhoknnjilidnaaGreatDoor.Torn (Gp gcells gpl Pcs Lists frames size)
open Go.ChangeShapes Go.WideShapes Go.ChangeAt Go.RowKit
section
variable {w w1 w2 W W' w':World} {p lb g c:Nat} {S T:St} {F F1:Nat→Prop} {limit cap:Int} {nums:List Nat} {base:Nat} {begun failed:Bool} {fr:Nat→List (List Rcd)} {i:Nat} {zs:List Nat} {vz:Value}
theorem dsk_plan (h:Dsk w p S F) (l k:Int) (hl:l≤9223372036854775807) (hk:k≤9223372036854775807) :
  Calls Tryz.prog 10 #[.pointer (some ⟨p,0,none⟩),.int .i64 l,.int .i64 k] w fun e w'=>e = .returned (.tuple #[])∧Next w p F (planned S l k) w' :=
 (Disk.plan_any p S F l k hl hk w h.1).mono fun e w' ⟨h1,h2,h3⟩=>⟨h1,⟨h2,⟨h.2.rising,h.2.used,h.2.cap,h.2.many⟩⟩,h3⟩
theorem dsk_open (h:Dsk w p S F) :
  Calls Tryz.prog 17 #[.pointer (some ⟨p,0,none⟩)] w fun e w'=>e = .returned (.tuple #[])∧Next w p F (opened S) w' :=
 (Disk.open_any p S F w h.1).mono fun e w' ⟨h1,h2,h3⟩=>⟨h1,⟨h2,⟨h.2.rising,h.2.used,h.2.cap,h.2.many⟩⟩,h3⟩
theorem planOk_planned {l k:Int} (hl:l≤9223372036854775807) (hk:k≤9223372036854775807):PlanOk (planned S l k).plan:=by
 intro a b e
 have e':some (max l 0,max k 0)=some (a,b):=e
 injection e' with e'
 injection e' with e1 e2
 omega
theorem dsk_used (h:Dsk w p S F) :
  Calls Tryz.prog 9 #[.pointer (some ⟨p,0,none⟩)] w fun e w'=>e = .returned (.int .i64 (Disk.used S:Int))∧Below w.heap.size w w':=by
 have hu:=h.used
 obtain ⟨⟨mb,cr,es,D,hA,_⟩,_⟩:=h
 exact Disk.used_at hA hu
theorem planOk_none:PlanOk none:=fun _ _ e=>by cases e
theorem Lv.turn (h:Lv S cap nums base begun fr i) (hf:T.files=S.files) (hc:T.cap=S.cap) (hd:T.down=false) (hp:PlanOk T.plan):Lv T cap nums base begun fr i :=
 ⟨⟨⟨hc.trans h.lg.up.cap,hd,by rw [hf];exact h.lg.up.apart,hp⟩,by rw [hf];exact h.lg.inv,h.lg.num,h.lg.ok⟩,h.last,h.low,h.base_,h.left,h.next⟩
theorem Lv.planned (h:Lv S cap nums base begun fr i) {l k:Int} (hl:l≤9223372036854775807) (hk:k≤9223372036854775807):Lv (Disk.planned S l k) cap nums base begun fr i :=
 h.turn rfl rfl h.lg.up.up (planOk_planned hl hk)
theorem Lv.opened (h:Lv S cap nums base begun fr i):Lv (Disk.opened S) cap nums base begun fr i:=h.turn rfl rfl rfl planOk_none
theorem tot_used (S:St):tot S.files=Disk.used S:=rfl
def baseN (base:Nat) (nums:List Nat) (fr:Nat→List (List Rcd)):Int:=if base=0 then -1 else ((all (below base nums) fr).length:Int)
theorem kept_pos (h0:base≠0):kept base nums=below base nums:=by unfold kept below;rw [if_neg h0]
theorem all_split (hr:nums.Pairwise (· < ·)):all nums fr=all (below base nums) fr++all (from_ base nums) fr:=by
 rw [← all_app]
 congr 1
 have h:=take_below hr base
 rw [← h.1,← h.2,List.take_append_drop]
theorem base_le (hr:nums.Pairwise (· < ·)):(all (below base nums) fr).length≤(all nums fr).length:=by
 rw [all_split (base:=base) hr,List.length_append];omega
structure Held (w0 w:World) (sb:Nat) (H:Nat→Prop) (a:Option Addr) (cp:Nat) (ls:List Torn.Lg) (B:Int) (b:Bool) (aq:Option Addr) (cq:Nat) (ss:List Sp):Prop where
 state:Disk.Blk w sb 36 #[.slice a ls.length cp,.int .i64 B,.bool b]
 sboff:¬ H sb
 below:Below w0.heap.size w0 w
 newer:∀ j,H j→w0.heap.size≤j
 lt:∀ j,H j→j < w.heap.size
 sbnew:w0.heap.size≤sb
 recs:∀ g ∈ ls,Recs w0 g.a g.l
 few:∀ g ∈ ls,g.l.length≤20
 lrow:0 < ls.length→∃ b off,a=some ⟨b,off,none⟩∧b < w.heap.size∧∀ i (h:i < ls.length),w.cell? ⟨b,off+i,none⟩=some (.slice ls[i].a ls[i].l.length ls[i].cap)
 lcap:ls.length≤cp∧cp≤maxLen
 lnil:a=none→cp=0
 lone:∀ q,a=some q→q.spot=none
 loff:∀ q,a=some q→w0.heap.size≤q.block∧q.block < w.heap.size∧q.block≠sb∧¬ H q.block
 spots:Spts w aq ss
 scap:ss.length≤cq∧cq≤maxLen
 snil:aq=none→cq=0
 sone:∀ q,aq=some q→q.spot=none
 soff:∀ q,aq=some q→w0.heap.size≤q.block∧q.block < w.heap.size∧q.block≠sb∧¬ H q.block
theorem own_facts {w:World} {base n c size:Nat} {e:TypeId} {a:Option Addr} {xs:List Value} (h:w.ownsRow base e size (.slice a n c) n xs):(a=none→c=0)∧n≤c∧c≤maxLen∧∀ q,a=some q→base≤q.block∧q.block < w.heap.size∧q.spot=none∧(Value.slice a n c).ownBlock=some q.block:=by
 rcases h.2 with ⟨hv,h0⟩|⟨g,cap,cur,hv,hg,hh,hnc,hcm,hcs,ht⟩
 ·cases hv
  exact ⟨fun _=>rfl,by omega,Nat.zero_le _,fun q hq=>by cases hq⟩
 ·cases hv
  refine ⟨fun hq=>(by cases hq),hnc,hcm,fun q hq=>?_⟩
  cases hq
  exact ⟨hg,(h.lt g rfl).2,rfl,rfl⟩
theorem Held.lists {w0:World} {sb:Nat} {H:Nat→Prop} {a:Option Addr} {cp:Nat} {ls:List Torn.Lg} {B:Int} {b:Bool} {aq:Option Addr} {cq:Nat} {ss:List Sp} (h:Held w0 w sb H a cp ls B b aq cq ss):Lists w a ls :=
 ⟨fun g hg=>(h.recs g hg).below h.below,h.lrow⟩
theorem Held.step {w0:World} {sb:Nat} {H H':Nat→Prop} {a:Option Addr} {cp:Nat} {ls:List Torn.Lg} {B:Int} {b:Bool} {aq:Option Addr} {cq:Nat} {ss:List Sp} (h:Held w0 w sb H a cp ls B b aq cq ss) (hb:But H w w') (hs:∀ j,H' j→H j∨w.heap.size≤j) (hl:∀ j,H' j→j < w'.heap.size):Held w0 w' sb H' a cp ls B b aq cq ss:=by
 have hsz:=h.below.size
 have hsb:=h.state.lt
 have hz:=hb.size
 have hoff:∀ j,j < w.heap.size→¬ H j→¬ H' j:=fun j h1 h2 h3=>by
  rcases hs j h3 with h4|h4
  ·exact h2 h4
  ·omega
 refine ⟨h.state.but hb h.sboff,hoff sb hsb h.sboff,?_,fun j hj=>?_,hl,h.sbnew,h.recs,h.few,fun hn=>?_,h.lcap,h.lnil,h.lone,fun q hq=>?_,fun hn=>?_,h.scap,h.snil,h.sone,fun q hq=>?_⟩
 ·exact h.below.trans (hb.below hsz h.newer)
 ·rcases hs j hj with h1|h1
  ·exact h.newer j h1
  ·omega
 ·obtain ⟨b',off,rfl,hlt,hc⟩:=h.lrow hn
  have ho:=h.loff _ rfl
  exact ⟨b',off,rfl,Nat.lt_of_lt_of_le hlt hz,fun i hi=>(hb.cell (p:=⟨b',off+i,none⟩) hlt ho.2.2.2).trans (hc i hi)⟩
 ·have ho:=h.loff q hq
  exact ⟨ho.1,Nat.lt_of_lt_of_le ho.2.1 hz,ho.2.2.1,hoff _ ho.2.1 ho.2.2.2⟩
 ·obtain ⟨b',off,rfl,hlt,hc⟩:=h.spots hn
  have ho:=h.soff _ rfl
  exact ⟨b',off,rfl,Nat.lt_of_lt_of_le hlt hz,fun i hi j u hu=>(hb.cell (p:=⟨b',off+i * 3+j,none⟩) hlt ho.2.2.2).trans (hc i hi j u hu)⟩
 ·have ho:=h.soff q hq
  exact ⟨ho.1,Nat.lt_of_lt_of_le ho.2.1 hz,ho.2.2.1,hoff _ ho.2.1 ho.2.2.2⟩
theorem Held.new {w0:World} {sb:Nat} {H:Nat→Prop} {a:Option Addr} {cp:Nat} {ls:List Torn.Lg} {B:Int} {b:Bool} {aq:Option Addr} {cq:Nat} {ss:List Sp} (h:Held w0 w sb H a cp ls B b aq cq ss) (hb:Below w.heap.size w w'):Held w0 w' sb H a cp ls B b aq cq ss :=
 h.step (But.of_new hb) (fun j hj => .inl hj) (fun j hj=>Nat.lt_of_lt_of_le (h.lt j hj) hb.size)
theorem foot_grow {j:Nat} (h:foot lb g vz (grow F w w') j):foot lb g vz F j∨w.heap.size≤j:=by
 rcases h with (h|h)|h
 ·exact .inl (.inl h)
 ·exact .inr h.1
 ·exact .inl (.inr h)
theorem foot_kept {g1:Nat} {vz1:Value} (hK:KeptG w w' lb g F F1 vz g1 vz1) {j:Nat} (h:foot lb g1 vz1 F1 j):foot lb g vz F j∨w.heap.size≤j:=by
 rcases h with h|h|h|h
 ·rcases hK.sub j h with h1|h1
  ·exact .inl (.inl h1)
  ·exact .inr h1.1
 ·exact .inl (.inr (.inl h))
 ·rcases hK.gs with h1|h1
  ·exact .inl (.inr (.inr (.inl (h.trans h1))))
  ·exact .inr (by omega)
 ·rcases hK.own j h with h1|h1
  ·exact .inl (.inr (.inr (.inr h1)))
  ·exact .inr h1
theorem Held.disk {w0:World} {sb:Nat} {a:Option Addr} {cp:Nat} {ls:List Torn.Lg} {B:Int} {b:Bool} {aq:Option Addr} {cq:Nat} {ss:List Sp} (h:Held w0 w sb (foot lb g vz F) a cp ls B b aq cq ss) (hN:Next w p F T w'):Held w0 w' sb (foot lb g vz (grow F w w')) a cp ls B b aq cq ss :=
 h.step (hN.2.mono (fun j _ hj => .inl hj)) (fun j hj=>foot_grow hj) (fun j hj=>by
  rcases hj with (h1|h1)|h1
  ·exact Nat.lt_of_lt_of_le (h.lt j (.inl h1)) hN.2.size
  ·exact h1.2
  ·exact Nat.lt_of_lt_of_le (h.lt j (.inr h1)) hN.2.size)
theorem Held.kept {w0:World} {sb g1:Nat} {vz1:Value} {a:Option Addr} {cp:Nat} {ls:List Torn.Lg} {B:Int} {b:Bool} {aq:Option Addr} {cq:Nat} {ss:List Sp} (h:Held w0 w sb (foot lb g vz F) a cp ls B b aq cq ss) (hK:KeptG w w' lb g F F1 vz g1 vz1) (hl:∀ j,foot lb g1 vz1 F1 j→j < w'.heap.size):Held w0 w' sb (foot lb g1 vz1 F1) a cp ls B b aq cq ss :=
 h.step (hK.but.mono (fun j _ hj=>by
  rcases hj with h1|h1|h1
  ·exact .inl h1
  ·exact .inr (.inl h1)
  ·exact .inr (.inr (.inr h1)))) (fun j hj=>foot_kept hK hj) hl
theorem SysAt.lt_ (h:SysAt w p lb S limit nums base begun zs failed F g c vz):∀ k,foot lb g vz F k→k < w.heap.size:=by
 intro k hk
 rcases hk with h1|h1|h1|h1
 ·exact h.dsk.lt k h1
 ·rw [h1];exact h.log.lt
 ·rw [h1];exact h.nms.lt
 ·exact (h.siz.lt k h1).2
end
end Go.Proofs.YtbhoknnjilidnaaGreatDoor.Seg
end
section
namespace Go.Proofs.YtbhoknnjilidnaaGreatDoor.Seg
open Go.Proofs.YtbhoknnjilidnaaGreatDoor.Mem
open Go.Proofs.YtbhoknnjilidnaaGreatDoor.Disk (Nm File St Has grow errV tot planned opened)
open Go.Proofs.YtbhoknnjilidnaaGreatDoor.Rec (Rcd Recs Is okBody)
open Go.Proofs.YtbhoknnjilidnaaGreatDoor.Torn (Gp gcells gpl Pcs Lists frames size)
open Go.ChangeShapes Go.WideShapes Go.ChangeAt Go.RowKit
structure Dd where
 what:Int
 a:Option Addr
 cap:Nat
 l:List Rcd
 dn:Bool
 ef:Int
 kp:Int
def ddc (d:Dd):List Value:=[.int .i64 d.what,.slice d.a d.l.length d.cap,.bool d.dn,.int .i64 d.ef,.int .i64 d.kp]
structure OkDd (w:World) (d:Dd):Prop where
 what : -9223372036854775808≤d.what∧d.what≤9223372036854775807
 ef : -9223372036854775808≤d.ef∧d.ef≤9223372036854775807
 kp : -9223372036854775808≤d.kp∧d.kp≤9223372036854775807
 recs:Recs w d.a d.l
 len:d.l.length≤9223372036854775807
structure Dds (w:World) (a:Option Addr) (ds:List Dd):Prop where
 ok:∀ d ∈ ds,OkDd w d
 at_:0 < ds.length→∃ b off,a=some ⟨b,off,none⟩∧b < w.heap.size∧∀ i (h:i < ds.length) j u,(ddc ds[i])[j]?=some u→w.cell? ⟨b,off+i * 5+j,none⟩=some u
def PRel (w0:World) (p sb:Nat) (limit cap:Int) (N:Nat) (vl vs vi:Value) (w:World):Prop :=
 ∃ k lb aq cq S nums base begun fr i F g c vz a cp ls,k≤N∧vi = .int .i64 ((k:Nat):Int)∧vl = .pointer (some ⟨lb,0,none⟩)∧vs = .slice aq (allSpots nums fr).length cq ∧
  SysAt w p lb S limit nums base begun (szs nums fr) false F g c vz∧Lv S cap nums base begun fr i∧i≤k+1∧(base≠0→begun=true)∧Held w0 w sb (foot lb g vz F) a cp ls (baseN base nums fr) begun aq cq (allSpots nums fr)∧ls.map (·.l)=all nums fr∧ls.length≤k
def inLoop:Code→Option Code
 | .loop c=>some c
 | .seq a b=>(inLoop a).orElse fun _=>inLoop b
 | .block _ c=>inLoop c
 | .scope c=>inLoop c
 | .cond _ a b=>(inLoop a).orElse fun _=>inLoop b
 | _=>none
noncomputable def playsBody:Code:=(Tryz.f3.body.bind inLoop).getD .skip
theorem live_first {S:St} {cap:Int} (h:Lg S cap [1] 0 false (fun _=>[])):Lv S cap [1] 0 false (fun _=>[]) 1 :=
 ⟨h,rfl,by omega,.inl rfl,by rw [kept_zero];simp,fun _ _=>rfl⟩
end Go.Proofs.YtbhoknnjilidnaaGreatDoor.Seg
end
section
namespace Go.Proofs.YtbhoknnjilidnaaGreatDoor.Seg
open Go.Proofs.YtbhoknnjilidnaaGreatDoor.Mem
open Go.Proofs.YtbhoknnjilidnaaGreatDoor.Disk (Nm File St Has grow errV tot PlanOk planned opened)
open Go.Proofs.YtbhoknnjilidnaaGreatDoor.Rec (Rcd Recs Is okBody)
open Go.Proofs.YtbhoknnjilidnaaGreatDoor.Torn (Gp gcells gpl gpl_get Pcs Lists frames size)
open Go.ChangeShapes Go.WideShapes Go.ChangeAt Go.RowKit
section
variable {w w1 w2 W W' w' w0:World} {p lb g c sb:Nat} {S T:St} {F F1 H H':Nat→Prop} {limit cap:Int} {nums:List Nat} {base:Nat} {begun failed b b':Bool} {fr:Nat→List (List Rcd)} {i:Nat} {zs:List Nat} {vz:Value} {a a' aq aq':Option Addr} {cp cp' cq cq':Nat} {ls ls':List Torn.Lg} {B B':Int} {ss ss':List Sp}
theorem kept_length (h:Lv S cap nums base begun fr i):(kept base nums).length≤100:=low_length (kept_nums h.lg.num base h.left).rising (fun j hj=>h.lows j (mem_kept hj))
theorem pcs_of_rows {e:TypeId} {B cp:Nat} {ap:Option Addr} {gs:List Gp} (h:w.ownsRow B e 3 (.slice ap gs.length cp) gs.length (gpl gs)) (hr:∀ g ∈ gs,Recs w g.a g.p.l):Pcs w ap gs:=by
 refine ⟨hr,fun hn=>?_⟩
 rcases h.2 with ⟨_,h0⟩|⟨g,cap,cur,hv,hg,hh,hnc,hcm,hcs,ht⟩
 ·omega
 ·obtain ⟨rfl,rfl⟩:ap=some ⟨g,0,none⟩∧cp=cap:=by cases hv;exact ⟨rfl,rfl⟩
  refine ⟨g,0,rfl,(h.lt g rfl).2,fun i hi j u hu=>?_⟩
  have hj:j < 3:=by
   have:=(List.getElem?_eq_some_iff.1 hu).1
   simpa [gcells] using this
  have h1:=h.cellAt (i * 3+j) (by omega)
  rw [gpl_get gs i j hi hj,hu] at h1
  rw [Nat.zero_add]
  exact h1
theorem Held.anew (h:Held w0 w sb H a cp ls B b aq cq ss) (hFH:∀ j,F j→H j) (hb:But F w w') (hs:∀ j,H' j→grow F w w' j) (hl:∀ j,H' j→j < w'.heap.size) {OB:Nat} {e:TypeId} (hOB:w.heap.size≤OB) (ho:w'.ownsRow OB e 3 (.slice aq' ss'.length cq') ss'.length (spl ss')) (hoff:∀ k,(Value.slice aq' ss'.length cq').ownBlock=some k→¬ H' k) :
  Held w0 w' sb H' a cp ls B b aq' cq' ss':=by
 have h1:=h.step (H':=H') (hb.mono (fun j _ hj=>hFH j hj)) (fun j hj=>by
  rcases hs j hj with h1|h1
  ·exact .inl (hFH j h1)
  ·exact .inr h1.1) hl
 have hf:=own_facts ho
 have hsz:=h.below.size
 have hsb:=h.state.lt
 exact ⟨h1.state,h1.sboff,h1.below,h1.newer,h1.lt,h1.sbnew,h1.recs,h1.few,h1.lrow,h1.lcap,h1.lnil,h1.lone,h1.loff,spts_of_own ho,⟨hf.2.1,hf.2.2.1⟩,hf.1,fun q hq=>(hf.2.2.2 q hq).2.2.1,fun q hq=>by
  have h2:=hf.2.2.2 q hq
  exact ⟨by omega,h2.2.1,by omega,hoff _ h2.2.2.2⟩⟩
theorem Held.store (h:Held w0 w sb H a cp ls B b aq cq ss) (hr:∀ g ∈ ls',Recs w0 g.a g.l) (hfew:∀ g ∈ ls',g.l.length≤20) (hrow:0 < ls'.length→∃ b off,a'=some ⟨b,off,none⟩∧b < w.heap.size∧∀ i (h:i < ls'.length),w.cell? ⟨b,off+i,none⟩=some (.slice ls'[i].a ls'[i].l.length ls'[i].cap)) (hcap:ls'.length≤cp'∧cp'≤maxLen) (hnil:a'=none→cp'=0) (hone:∀ q,a'=some q→q.spot=none) (hoff:∀ q,a'=some q→w0.heap.size≤q.block∧q.block < w.heap.size∧q.block≠sb∧¬ H q.block) :
  Held w0 (((w.setCell ⟨sb,0,none⟩ (.slice a' ls'.length cp')).setCell ⟨sb,1,none⟩ (.int .i64 B')).setCell ⟨sb,2,none⟩ (.bool b')) sb H a' cp' ls' B' b' aq cq ss:=by
 have hb:=but_set3 w sb (.slice a' ls'.length cp') (.int .i64 B') (.bool b')
 have hz:=hb.size
 refine ⟨((h.state.set_ 0 _).set_ 1 _).set_ 2 _,h.sboff,below_set3 h.below h.sbnew _ _ _,h.newer,fun j hj=>Nat.lt_of_lt_of_le (h.lt j hj) hz,h.sbnew,hr,hfew,fun hn=>?_,hcap,hnil,hone,fun q hq=>?_,fun hn=>?_,h.scap,h.snil,h.sone,fun q hq=>?_⟩
 ·obtain ⟨b2,off,rfl,hlt,hc⟩:=hrow hn
  have ho:=hoff _ rfl
  exact ⟨b2,off,rfl,Nat.lt_of_lt_of_le hlt hz,fun i hi=>(hb.cell (p:=⟨b2,off+i,none⟩) hlt ho.2.2.1).trans (hc i hi)⟩
 ·have ho:=hoff q hq
  exact ⟨ho.1,Nat.lt_of_lt_of_le ho.2.1 hz,ho.2.2.1,ho.2.2.2⟩
 ·obtain ⟨b2,off,rfl,hlt,hc⟩:=h.spots hn
  have ho:=h.soff _ rfl
  exact ⟨b2,off,rfl,Nat.lt_of_lt_of_le hlt hz,fun i hi j u hu=>(hb.cell (p:=⟨b2,off+i * 3+j,none⟩) hlt ho.2.2.1).trans (hc i hi j u hu)⟩
 ·have ho:=h.soff q hq
  exact ⟨ho.1,Nat.lt_of_lt_of_le ho.2.1 hz,ho.2.2.1,ho.2.2.2⟩
theorem Held.front (h:Held w0 w sb H a cp ls B b aq cq ss) (m:Nat) (hm:m≤ls.length) :
  (∀ g ∈ ls.take m,Recs w0 g.a g.l)∧(∀ g ∈ ls.take m,g.l.length≤20)∧(0 < (ls.take m).length→∃ b off,a=some ⟨b,off,none⟩∧b < w.heap.size∧∀ i (h:i < (ls.take m).length),w.cell? ⟨b,off+i,none⟩=some (.slice (ls.take m)[i].a (ls.take m)[i].l.length (ls.take m)[i].cap)):=by
 refine ⟨fun g hg=>h.recs g (List.mem_of_mem_take hg),fun g hg=>h.few g (List.mem_of_mem_take hg),fun hn=>?_⟩
 rw [List.length_take] at hn
 obtain ⟨b2,off,ha,hlt,hc⟩:=h.lrow (by omega)
 refine ⟨b2,off,ha,hlt,fun i hi=>?_⟩
 rw [List.length_take] at hi
 rw [List.getElem_take]
 exact hc i (by omega)
theorem only_base (nums:List Nat) (fr:Nat→List (List Rcd)):baseN 0 nums fr = -1:=if_pos rfl
theorem spots_only (nums:List Nat) (fr:Nat→List (List Rcd)):allSpots nums (only nums fr)=allSpots nums fr:=spots_cong (fun j hj=>only_in hj)
theorem kept_all (h:Lv S cap nums base begun fr i) (hls:ls.map (·.l)=all nums fr):(ls.take (all (kept base nums) fr).length).map (·.l)=all (kept base nums) fr∧(all (kept base nums) fr).length≤ls.length:=by
 have hl:ls.length=(all nums fr).length:=by rw [← hls,List.length_map]
 by_cases h0:base=0
 ·subst h0
  rw [kept_zero,← hl,List.take_length]
  exact ⟨hls,Nat.le_refl _⟩
 ·rw [kept_pos h0,List.map_take,hls]
  have hsp:=all_split (base:=base) (fr:=fr) h.lg.num.rising
  refine ⟨?_,by rw [hl];exact base_le h.lg.num.rising⟩
  conv=>lhs;rw [hsp]
  exact List.take_left
theorem baseN_kept (h0:base≠0):baseN base nums fr=((all (kept base nums) fr).length:Int):=by
 unfold baseN
 rw [if_neg h0,kept_pos h0]
theorem opened_held (hV:Lv S cap nums base begun fr i) (h:Held w0 w sb H a cp ls (baseN base nums fr) b aq cq ss) (hls:ls.map (·.l)=all nums fr) :
  Calls Tryz.prog 20 #[stV a ls.length cp (baseN base nums fr) b] w fun e w'=>e = .returned (stV a (ls.take (all (kept base nums) fr).length).length cp (-1) b)∧Below w.heap.size w w':=by
 have hk:=kept_all hV hls
 have hlen:(ls.take (all (kept base nums) fr).length).length=(all (kept base nums) fr).length:=by rw [List.length_take];omega
 rw [hlen]
 by_cases h0:base=0
 ·subst h0
  rw [only_base]
  have e:(all (kept 0 nums) fr).length=ls.length:=by rw [kept_zero,← hls,List.length_map]
  rw [e]
  exact opened_no a ls.length cp (-1) b (by omega) w
 ·rw [baseN_kept h0]
  have hc:=h.lcap
  have hm:cp≤9223372036854775807:=by have:=hc.2;unfold maxLen at this;omega
  rcases a with _|⟨g1,off,sp⟩
  ·have hcp:=h.lnil rfl
   have hl0:ls.length=0:=by omega
   have e:(all (kept base nums) fr).length=0:=by omega
   rw [e,hcp,hl0]
   exact opened_none b w
  ·have hsp:sp=none:=h.lone _ rfl
   subst hsp
   exact opened_yes g1 off ls.length cp _ b (by omega) hm w
end
end Go.Proofs.YtbhoknnjilidnaaGreatDoor.Seg
end
section
namespace Go.Proofs.YtbhoknnjilidnaaGreatDoor.Seg
open Go.Proofs.YtbhoknnjilidnaaGreatDoor.Mem
open Go.Proofs.YtbhoknnjilidnaaGreatDoor.Disk (Nm File St Has grow errV tot PlanOk planned opened)
open Go.Proofs.YtbhoknnjilidnaaGreatDoor.Rec (Rcd Recs Is okBody)
open Go.Proofs.YtbhoknnjilidnaaGreatDoor.Torn (Gp gcells gpl gpl_get Pcs Lists frames size piecesOf)
open Go.ChangeShapes Go.WideShapes Go.ChangeAt Go.RowKit
section
variable {w w0:World} {p lb g c sb N0 k:Nat} {S T:St} {F:Nat→Prop} {limit cap:Int} {nums ns:List Nat} {base:Nat} {begun:Bool} {fr:Nat→List (List Rcd)} {i L:Nat} {vz:Value} {a aq:Option Addr} {cp cq:Nat} {ls:List Torn.Lg} {gs:List Gp}
theorem pieces_l (ls:List (List Rcd)):∀ k,(piecesOf k ls).map (·.l)=ls:=by
 induction ls with
 | nil=>intro k;rfl
 | cons l r ih=>intro k;show l :: (piecesOf (k+size l) r).map (·.l)=l :: r;rw [ih]
theorem allPieces_all (nums:List Nat) (fr:Nat→List (List Rcd)):(allPieces nums fr).map (·.l)=all nums fr:=by
 unfold allPieces all
 rw [flatMap_map]
 exact flatMap_cong (fun i _=>pieces_l (fr i) 0)
theorem pieces_told {ls':List Torn.Lg} (h:ls'.map (·.l)=all nums fr) (hgs:gs.map (·.p)=allPieces nums fr) (hfew:∀ g ∈ ls',g.l.length≤20):gs.map (·.p.l)=ls'.map (·.l)∧gs.length=ls'.length∧∀ g ∈ gs,g.p.l.length≤1000000:=by
 have e:gs.map (·.p.l)=ls'.map (·.l):=by
  have h1:gs.map (·.p.l)=(gs.map (·.p)).map (·.l):=by rw [List.map_map];rfl
  rw [h1,hgs,allPieces_all,h]
 refine ⟨e,by have:=congrArg List.length e;simpa using this,fun g hg=>?_⟩
 have hm:g.p.l ∈ ls'.map (·.l):=by rw [← e];exact List.mem_map.2 ⟨g,hg,rfl⟩
 obtain ⟨x,hx,he⟩:=List.mem_map.1 hm
 have:=hfew x hx
 rw [← he]
 omega
theorem prel_opened (hlt:k < N0) (hik:i≤k+1) (hlk:ls.length≤k+1) (hL:L≤i) (hS:SysAt w p lb T limit ns 0 begun (szs ns (only ns fr)) false F g c vz) (hV:Lv T cap ns 0 begun (only ns fr) L) (hH:Held w0 w sb (foot lb g vz F) a cp ls (-1) begun aq cq (allSpots ns fr)) (hls:ls.map (·.l)=all ns fr) :
  PRel w0 p sb limit cap N0 (.pointer (some ⟨lb,0,none⟩)) (.slice aq (allSpots ns fr).length cq) (.int .i64 ((k:Int)+1)) w :=
 ⟨k+1,lb,aq,cq,T,ns,0,begun,only ns fr,L,F,g,c,vz,a,cp,ls,hlt,rfl,rfl,by rw [spots_only],hS,hV,by omega,fun h=>absurd rfl h,by rw [spots_only,only_base];exact hH,by rw [all_only];exact hls,hlk⟩
theorem prel_same (hlt:k < N0) (hik:i≤k+1) (hbb:base≠0→begun=true) (hlk:ls.length≤k) (hS:SysAt w p lb T limit nums base begun (szs nums fr) false F g c vz) (hV:Lv T cap nums base begun fr i) (hH:Held w0 w sb (foot lb g vz F) a cp ls (baseN base nums fr) begun aq cq (allSpots nums fr)) (hls:ls.map (·.l)=all nums fr) :
  PRel w0 p sb limit cap N0 (.pointer (some ⟨lb,0,none⟩)) (.slice aq (allSpots nums fr).length cq) (.int .i64 ((k:Int)+1)) w :=
 ⟨k+1,lb,aq,cq,T,nums,base,begun,fr,i,F,g,c,vz,a,cp,ls,hlt,rfl,rfl,rfl,hS,hV,by omega,hbb,hH,hls,by omega⟩
theorem baseN_pos (h0:base≠0):decide (0≤baseN base nums fr)=true:=by
 refine decide_eq_true ?_
 unfold baseN
 rw [if_neg h0]
 omega
end
end Go.Proofs.YtbhoknnjilidnaaGreatDoor.Seg
end
section
namespace Go.Proofs.YtbhoknnjilidnaaGreatDoor.Seg
open Go.Proofs.YtbhoknnjilidnaaGreatDoor.Mem
open Go.Proofs.YtbhoknnjilidnaaGreatDoor.Disk (Nm File St Has grow errV tot PlanOk planned opened)
open Go.Proofs.YtbhoknnjilidnaaGreatDoor.Rec (Rcd Recs Is okBody)
open Go.Proofs.YtbhoknnjilidnaaGreatDoor.Torn (Gp gcells gpl gpl_get Pcs Lists frames size piecesOf)
open Go.ChangeShapes Go.WideShapes Go.ChangeAt Go.RowKit
section
variable {w w0 w1 w':World} {p lb g c sb N0 k:Nat} {S T:St} {F F1 H:Nat→Prop} {limit cap:Int} {nums ns:List Nat} {base:Nat} {begun:Bool} {fr:Nat→List (List Rcd)} {i L:Nat} {vz:Value} {a aq:Option Addr} {cp cq:Nat} {ls:List Torn.Lg} {gs:List Gp}
structure Pk (w0 w:World) (p sb:Nat) (limit cap:Int) (k lb:Nat) (T:St) (nums:List Nat) (base:Nat) (begun:Bool) (fr:Nat→List (List Rcd)) (i:Nat) (F:Nat→Prop) (g c:Nat) (vz:Value) (a:Option Addr) (cp:Nat) (ls:List Torn.Lg) (aq:Option Addr) (cq:Nat) (ss:List Sp):Prop where
 sys:SysAt w p lb T limit nums base begun (szs nums fr) false F g c vz
 lv:Lv T cap nums base begun fr i
 ik:i≤k+2
 bb:base≠0→begun=true
 held:Held w0 w sb (foot lb g vz F) a cp ls (baseN base nums fr) begun aq cq ss
 sp:ss=allSpots nums fr
 all_:ls.map (·.l)=all nums fr
 few:ls.length≤k+1
theorem Pk.below {ss:List Sp} (h:Pk w0 w p sb limit cap k lb T nums base begun fr i F g c vz a cp ls aq cq ss) (hb:Below w.heap.size w w'):Pk w0 w' p sb limit cap k lb T nums base begun fr i F g c vz a cp ls aq cq ss :=
 ⟨h.sys.below hb,h.lv,h.ik,h.bb,h.held.new hb,h.sp,h.all_,h.few⟩
theorem Pk.open {ss:List Sp} (h:Pk w0 w p sb limit cap k lb T nums base begun fr i F g c vz a cp ls aq cq ss) (hN:Next w p F (opened T) w'):Pk w0 w' p sb limit cap k lb (opened T) nums base begun fr i (grow F w w') g c vz a cp ls aq cq ss :=
 ⟨h.sys.disk hN,h.lv.opened,h.ik,h.bb,h.held.disk hN,h.sp,h.all_,h.few⟩
theorem Pk.whole {ss:List Sp} (h:Pk w0 w p sb limit cap k lb T nums base begun fr i F g c vz a cp ls aq cq ss) (hk:k≤50) :
  Calls Tryz.prog 18 #[.pointer (some ⟨lb,0,none⟩),.slice aq ss.length cq,stV a ls.length cp (baseN base nums fr) begun] w fun e w'=>e = .returned (.bool true)∧Below w.heap.size w w':=by
 have hsp:=h.sp
 subst hsp
 exact whole_any h.sys h.lv h.lv.lg.up.up h.held.spots h.held.lists h.all_ (by have:=h.few;omega) (fun g hg=>by have:=h.held.few g hg;omega) _ _
theorem Pk.prel {ss:List Sp} (h:Pk w0 w p sb limit cap k lb T nums base begun fr i F g c vz a cp ls aq cq ss) (hlt:k < N0) :
  PRel w0 p sb limit cap N0 (.pointer (some ⟨lb,0,none⟩)) (.slice aq ss.length cq) (.int .i64 ((k:Int)+1)) w:=by
 have hsp:=h.sp
 subst hsp
 exact ⟨k+1,lb,aq,cq,T,nums,base,begun,fr,i,F,g,c,vz,a,cp,ls,hlt,rfl,rfl,rfl,h.sys,h.lv,h.ik,h.bb,h.held,h.all_,h.few⟩
def store3 (w:World) (sb:Nat) (x y z:Value):World:=((w.setCell ⟨sb,0,none⟩ x).setCell ⟨sb,1,none⟩ y).setCell ⟨sb,2,none⟩ z
theorem SysAt.store {zs:List Nat} {failed:Bool} (h:SysAt w p lb T limit nums base begun zs failed F g c vz) (hs:¬ foot lb g vz F sb) (x y z:Value):SysAt (store3 w sb x y z) p lb T limit nums base begun zs failed F g c vz :=
 h.but_ (but_set3 w sb x y z) (fun j hj e=>hs ((show j=sb from e) ▸ hj))
theorem below_all {k:Nat} (h:∀ j ∈ nums,j < k):below k (nums++[k])=nums:=by
 unfold below
 rw [List.filter_append,List.filter_eq_self.2 (fun j hj=>decide_eq_true (h j hj))]
 simp
theorem begin_pk {B:Int} {b:Bool} (hS:SysAt w p lb T limit (nums++[i+1]) (i+1) true (szs (nums++[i+1]) fr) false F g c vz) (hV:Lv T cap (nums++[i+1]) (i+1) true fr (i+1)) (hmax:∀ j ∈ nums,j≤i) (hf:fr (i+1)=[]) (hH:Held w0 w sb (foot lb g vz F) a cp ls B b aq cq (allSpots nums fr)) (hls:ls.map (·.l)=all nums fr) (hik:i≤k+1) (hlk:ls.length≤k) :
  Pk w0 (store3 w sb (.slice a ls.length cp) (.int .i64 (ls.length:Int)) (.bool true)) p sb limit cap k lb T (nums++[i+1]) (i+1) true fr (i+1) F g c vz a cp ls aq cq (allSpots nums fr):=by
 have hB:baseN (i+1) (nums++[i+1]) fr=(ls.length:Int):=by
  unfold baseN
  rw [if_neg (by omega),below_all (fun j hj=>by have:=hmax j hj;omega),← hls,List.length_map]
 have hH2:=hH.store (a':=a) (ls':=ls) (cp':=cp) (B':=(ls.length:Int)) (b':=true) hH.recs hH.few hH.lrow hH.lcap hH.lnil hH.lone hH.loff
 refine ⟨hS.store hH.sboff _ _ _,hV,by omega,fun _=>rfl,?_,(spots_next hf).symm,?_,by omega⟩
 ·rw [hB];exact hH2
 ·rw [hls,all_app];simp [all,hf]
theorem all_from (hr:nums.Pairwise (· < ·)) (hls:ls.map (·.l)=all nums fr):(ls.drop (all (below base nums) fr).length).map (·.l)=all (from_ base nums) fr∧(all (below base nums) fr).length≤ls.length∧allSpots (from_ base nums) fr=(allSpots nums fr).drop (all (below base nums) fr).length:=by
 have hs:=all_split (base:=base) (fr:=fr) hr
 have hl:ls.length=(all nums fr).length:=by rw [← hls,List.length_map]
 refine ⟨?_,by rw [hl];exact base_le hr,?_⟩
 ·rw [List.map_drop,hls,hs]
  exact List.drop_left
 ·have h:=take_below hr base
  have e:nums=below base nums++from_ base nums:=by rw [← h.1,← h.2,List.take_append_drop]
  have e2:allSpots nums fr=allSpots (below base nums) fr++allSpots (from_ base nums) fr:=by
   conv=>lhs;rw [e]
   exact spots_app _ _ _
  rw [e2,← spots_length]
  exact List.drop_left.symm
theorem spts_drop {w:World} {b off:Nat} {ss:List Sp} (h:Spts w (some ⟨b,off,none⟩) ss) {m:Nat} (hm:m≤ss.length):Spts w (some ⟨b,off+m * 3,none⟩) (ss.drop m):=fun hn=>by
 rw [List.length_drop] at hn
 obtain ⟨b',off',ha,hlt,hc⟩:=h (by omega)
 injection ha with ha
 injection ha with h1 h2
 subst h1;subst h2
 refine ⟨b,off+m * 3,rfl,hlt,fun i hi j u hu=>?_⟩
 rw [List.length_drop] at hi
 have:=hc (m+i) (by omega) j u (by rw [List.getElem_drop] at hu;exact hu)
 rw [show off+m * 3+i * 3+j=off+(m+i) * 3+j by omega]
 exact this
theorem KeptG.foot_ {g1:Nat} {vz1:Value} (hK:KeptG w w' lb g F F1 vz g1 vz1):But (foot lb g vz F) w w':=hK.but.mono (fun j _ hj=>by
 rcases hj with h1|h1|h1
 ·exact .inl h1
 ·exact .inr (.inl h1)
 ·exact .inr (.inr (.inr h1)))
end
end Go.Proofs.YtbhoknnjilidnaaGreatDoor.Seg
end

/- Contract: the law's whole: a log is sound. Contract: Append on a log that failed. -/
import Derived.Test.YtbhoknnjilidnaaGreatDoorG40
import Derived.Test.YtbhoknnjilidnaaGreatDoorG44
import Derived.Test.YtbhoknnjilidnaaGreatDoorG37
set_option linter.unusedSimpArgs false
set_option linter.unusedVariables false
set_option maxHeartbeats 16000000
set_option maxRecDepth 100000
section
namespace Go.Proofs.YtbhoknnjilidnaaGreatDoor.Seg
open Go.Proofs.YtbhoknnjilidnaaGreatDoor.Mem
open Go.Proofs.YtbhoknnjilidnaaGreatDoor.Disk (Nm File St)
open Go.Proofs.YtbhoknnjilidnaaGreatDoor.Rec (Rcd Recs Is okBody same_any)
open Go.Proofs.YtbhoknnjilidnaaGreatDoor.Torn (Gp gcells gpl Pcs Lists frames size)
open Go.ChangeShapes Go.WideShapes Go.ChangeAt Go.RowKit
def Spts (w:World) (a:Option Addr) (ss:List Sp):Prop :=
 0 < ss.length→∃ b off,a=some ⟨b,off,none⟩∧b < w.heap.size∧∀ i (h:i < ss.length) j u,(spc ss[i])[j]?=some u→w.cell? ⟨b,off+i * 3+j,none⟩=some u
theorem Spts.below {w w':World} {a:Option Addr} {ss:List Sp} (h:Spts w a ss) (hb:Below w.heap.size w w'):Spts w' a ss:=by
 intro hn
 obtain ⟨b,off,rfl,hlt,hc⟩:=h hn
 exact ⟨b,off,rfl,Nat.lt_of_lt_of_le hlt hb.size,fun i hi j u hu=>(hb.cell (p:=⟨b,off+i * 3+j,none⟩) hlt).trans (hc i hi j u hu)⟩
theorem spts_of_own {w:World} {base cs:Nat} {e:TypeId} {a:Option Addr} {ss:List Sp} (h:w.ownsRow base e 3 (.slice a ss.length cs) ss.length (spl ss)):Spts w a ss:=by
 intro hn
 rcases h.2 with ⟨_,h0⟩|⟨g,cap,cur,hv,hg,hh,hnc,hcm,hcs,ht⟩
 ·omega
 ·obtain ⟨rfl,rfl⟩:a=some ⟨g,0,none⟩∧cs=cap:=by cases hv;exact ⟨rfl,rfl⟩
  refine ⟨g,0,rfl,(h.lt g rfl).2,fun i hi j u hu=>?_⟩
  have hj:j < 3:=by
   have:=(List.getElem?_eq_some_iff.1 hu).1
   simpa [spc] using this
  have h1:=h.cellAt (i * 3+j) (by omega)
  rw [spl_get ss i j hi hj,hu] at h1
  rw [Nat.zero_add]
  exact h1
theorem take_sum_le (l:List Nat) (k:Nat):(l.take k).sum≤l.sum:=by
 have h:=List.take_append_drop k l
 have h2:l.sum=(l.take k).sum+(l.drop k).sum:=by rw [← List.sum_append,h]
 omega
section
variable {w w1 w2 W W':World} {p lb g c:Nat} {S:St} {F:Nat→Prop} {limit cap:Int} {nums:List Nat} {base:Nat} {begun:Bool} {fr:Nat→List (List Rcd)} {i:Nat} {vz:Value}
theorem spot_at (hV:Lv S cap nums base begun fr i) {k:Nat} (hk:k < (allSpots nums fr).length) (hk2:k < (all nums fr).length):∃ f,(allSpots nums fr)[k].seg ∈ nums∧Disk.look (seg (allSpots nums fr)[k].seg) S.files=some f∧(allSpots nums fr)[k].at_+(allSpots nums fr)[k].len≤f.bytes.length∧Torn.scan 0 ((f.bytes.drop (allSpots nums fr)[k].at_).take (allSpots nums fr)[k].len)=[⟨0,(allSpots nums fr)[k].len,(all nums fr)[k]⟩]:=by
 have hk3:k < (allTags nums fr).length:=by rw [allTags_spots,List.length_map] at hk;exact hk
 have e1:(allSpots nums fr)[k]=tagSp (allTags nums fr)[k]:=by simp [allTags_spots]
 have e2:(all nums fr)[k]=(allTags nums fr)[k].l:=by simp [allTags_all]
 obtain ⟨h1,h2⟩:=allTags_ok (List.getElem_mem hk3)
 rw [e1,e2]
 obtain ⟨t,ht⟩:∃ t,t=(allTags nums fr)[k]:=⟨_,rfl⟩
 rw [← ht] at h1 h2 ⊢
 have h3:=hV.lg.inv.segs t.seg h1
 have h4:=hV.lg.ok t.seg h1 t.l (by rw [h2];simp)
 refine ⟨_,h1,h3,?_,?_⟩
 ·show (frames t.pre).length+size t.l≤(frames (fr t.seg)).length
  rw [h2]
  exact read_len
 ·show Torn.scan 0 (((frames (fr t.seg)).drop (frames t.pre).length).take (size t.l))=_
  rw [h2]
  exact read_scan h4.1 h4.2
theorem spots_length (nums:List Nat) (fr:Nat→List (List Rcd)):(allSpots nums fr).length=(all nums fr).length:=by
 rw [allTags_spots,allTags_all,List.length_map,List.length_map]
theorem szs_bound (h:SysAt w p lb S limit nums base begun (szs nums fr) false F g c vz) (hV:Lv S cap nums base begun fr i):∀ z ∈ szs nums fr,z≤2000000000:=fun z hz=>by
 obtain ⟨k,hk,rfl⟩:=List.mem_map.1 hz
 have h1:=hV.lg.inv.segs k hk
 have h2:=Disk.total_le_of (f:=fun e:File=>e.bytes.length) (Disk.look_mem h1)
 have h3:=h.dsk.2.used
 have h4:(full (frames (fr k))).bytes.length=(frames (fr k)).length:=rfl
 unfold Disk.used at h3
 omega
theorem whole_any (h:SysAt w p lb S limit nums base begun (szs nums fr) false F g c vz) (hV:Lv S cap nums base begun fr i) (hd:S.down=false) {aq:Option Addr} {cq:Nat} (hq:Spts w aq (allSpots nums fr)) {a:Option Addr} {cp:Nat} {ls:List Torn.Lg} (hL:Lists w a ls) (hls:ls.map (·.l)=all nums fr) (hl:ls.length≤1000000) (hs:∀ g ∈ ls,g.l.length≤1000000) (B:Int) (b:Bool) :
  Calls Tryz.prog 18 #[.pointer (some ⟨lb,0,none⟩),.slice aq (allSpots nums fr).length cq,stV a ls.length cp B b] w fun e w'=>e = .returned (.bool true)∧Below w.heap.size w w':=by
 have hmany:=hV.many
 have hn0:0 < nums.length:=List.length_pos_iff.2 hV.lg.num.some_
 have hsl:ls.length=(all nums fr).length:=by rw [← hls,List.length_map]
 have HH:=Lib.hid (And.intro h (And.intro hV (And.intro hd (And.intro hq (And.intro hL (And.intro hls hs))))))
 have HS0:=Lib.hid (AsS.start w a ls.length cp B b)
 obtain ⟨W,hW⟩:∃ W,W=w.alloc (.cells #[.slice a ls.length cp,.int .i64 B,.bool b] 36):=⟨_,rfl⟩
 rw [← hW] at HS0
 have hS1:=h.below HS0.out.bl
 obtain ⟨ss,hss⟩:∃ ss,ss=allSpots nums fr:=⟨_,rfl⟩
 have hsl2:=spots_length nums fr
 rw [← hss] at hsl2 ⊢
 obtain ⟨n,hn⟩:∃ n,n=ls.length:=⟨_,rfl⟩
 have hns:ss.length=n:=by omega
 rw [← hn] at HS0 hW hl ⊢
 rw [hns]
 have HN:=Lib.hid (And.intro hn (And.intro hns (And.intro hss (show n=(all nums fr).length by omega))))
 have c1:=segments_log hS1 (by omega)
 clear h hV hd hq hL hls hs hsl hsl2 hS1 hss hn hns
 unfold stV
 go_enter Tryz.func18,Tryz.ntmps18
 go_wp2_with fail
 rw [← hW]
 clear hW
 refine c1.mono ?_
 rintro e w1 ⟨v,rfl,ho1,hb1⟩
 obtain ⟨gg,cg,rfl⟩:=own_slice0 (ownsRow_base_a ho1 (Nat.zero_le _)) hn0
 have HS1:=Lib.hid (HS0.out.below hb1)
 have hc:=fun j (hj:j < nums.length)=>(ho1.cellAt j (by omega)).trans (intCells_get hj)
 have hglt:=(ho1.lt gg rfl).2
 have HC:=Lib.hid hc
 clear c1 hb1 ho1 hc HS0
 go_wp2_with fail
 go_loopw [9] (fun i wr=>∃ k m:Nat,k≤nums.length∧i = .int .i64 (k:Int)∧wr=w1.drewN m) (fun i _=>nums.length - (intOf i).toNat)
 case atStart=>exact ⟨0,0,Nat.zero_le _,rfl,rfl⟩
 case round =>
  obtain ⟨k,m,hk,rfl,rfl⟩:=hrel
  by_cases hlt:k < nums.length
  ·have hck:=HC.out k hlt
   have hpos:=HH.out.2.1.lg.num.pos nums[k] (List.getElem_mem hlt)
   have hlow:=HH.out.2.1.lows nums[k] (List.getElem_mem hlt)
   by_cases hk0:k=0
   ·obtain ⟨z,hz⟩:∃ z,z=nums[k]:=⟨_,rfl⟩
    rw [← hz] at hck hpos hlow
    have hz1:decide ((z:Int) < 1)=false:=decide_eq_false (by omega)
    have hk1:decide ((0:Int) < (k:Int))=false∧decide (0 < k)=false:=⟨decide_eq_false (by omega),decide_eq_false (by omega)⟩
    have HZ:=Lib.hid (And.intro hck (And.intro hk0 (And.intro hz1 hk1)))
    clear hz hck hk0 hz1 hk1 hpos hlow
    go_wp2_with fail
    refine Late.region_goes (fun u=>∃ j,u=w1.drewN j) (fun _=>false) (by kernel_rfl) ?_ (fun hH=>?_)
    ·exact ⟨m+1,rfl⟩
    refine Late.tk 0 ?_ ?_ hH ?_;rotate_left 2
    rotate_left
    any_goals (intro wy hSw;(try dsimp only at hSw);obtain ⟨j,rfl⟩:=hSw;obtain ⟨hck,-,hz1,hk1,hk1'⟩:=HZ.out;go_simp;try (with_reducible rfl))
    try simp only [Act.put,List.setIfInBounds_toArray,List.set_cons_zero,List.set_cons_succ]
    refine Late.tk 1 ?_ ?_ hH ?_;rotate_left 2
    rotate_left
    any_goals (intro wy hSw;(try dsimp only at hSw);obtain ⟨j,rfl⟩:=hSw;obtain ⟨hck,-,hz1,hk1,hk1'⟩:=HZ.out;go_simp;try (with_reducible rfl))
    try simp only [Act.put,List.setIfInBounds_toArray,List.set_cons_zero,List.set_cons_succ]
    refine Late.tk 2 ?_ ?_ hH ?_;rotate_left 2
    rotate_left
    any_goals (intro wy hSw;(try dsimp only at hSw);obtain ⟨j,rfl⟩:=hSw;obtain ⟨hck,-,hz1,hk1,hk1'⟩:=HZ.out;go_simp;try (with_reducible rfl))
    try simp only [Act.put,List.setIfInBounds_toArray,List.set_cons_zero,List.set_cons_succ]
    refine Late.tk 3 ?_ ?_ hH ?_;rotate_left 2
    rotate_left
    any_goals (intro wy hSw;(try dsimp only at hSw);obtain ⟨j,rfl⟩:=hSw;obtain ⟨hck,-,hz1,hk1,hk1'⟩:=HZ.out;go_simp;try (with_reducible rfl))
    try simp only [Act.put,List.setIfInBounds_toArray,List.set_cons_zero,List.set_cons_succ]
    refine Late.tk 4 ?_ ?_ hH ?_;rotate_left 2
    rotate_left
    any_goals (intro wy hSw;(try dsimp only at hSw);obtain ⟨j,rfl⟩:=hSw;obtain ⟨hck,-,hz1,hk1,hk1'⟩:=HZ.out;go_simp;try (with_reducible rfl))
    try simp only [Act.put,List.setIfInBounds_toArray,List.set_cons_zero,List.set_cons_succ]
    refine Late.tk 5 ?_ ?_ hH ?_;rotate_left 2
    rotate_left
    any_goals (intro wy hSw;(try dsimp only at hSw);obtain ⟨j,rfl⟩:=hSw;obtain ⟨hck,-,hz1,hk1,hk1'⟩:=HZ.out;go_simp;try (with_reducible rfl))
    try simp only [Act.put,List.setIfInBounds_toArray,List.set_cons_zero,List.set_cons_succ]
    refine Late.tk 6 ?_ ?_ hH ?_;rotate_left 2
    rotate_left
    any_goals (intro wy hSw;(try dsimp only at hSw);obtain ⟨j,rfl⟩:=hSw;obtain ⟨hck,-,hz1,hk1,hk1'⟩:=HZ.out;go_simp;try (with_reducible rfl))
    try simp only [Act.put,List.setIfInBounds_toArray,List.set_cons_zero,List.set_cons_succ]
    refine Late.tk 7 ?_ ?_ hH ?_;rotate_left 2
    rotate_left
    any_goals (intro wy hSw;(try dsimp only at hSw);obtain ⟨j,rfl⟩:=hSw;obtain ⟨hck,-,hz1,hk1,hk1'⟩:=HZ.out;go_simp;try (with_reducible rfl))
    try simp only [Act.put,List.setIfInBounds_toArray,List.set_cons_zero,List.set_cons_succ]
    refine Late.tk 8 ?_ ?_ hH ?_;rotate_left 2
    rotate_left
    any_goals (intro wy hSw;(try dsimp only at hSw);obtain ⟨j,rfl⟩:=hSw;obtain ⟨hck,-,hz1,hk1,hk1'⟩:=HZ.out;go_simp;try (with_reducible rfl))
    try simp only [Act.put,List.setIfInBounds_toArray,List.set_cons_zero,List.set_cons_succ]
    refine Late.tn 9 hH ?_
    try simp only [Act.put,List.setIfInBounds_toArray,List.set_cons_zero,List.set_cons_succ]
    refine Late.tn 10 hH ?_
    try simp only [Act.put,List.setIfInBounds_toArray,List.set_cons_zero,List.set_cons_succ]
    refine Late.tn 11 hH ?_
    try simp only [Act.put,List.setIfInBounds_toArray,List.set_cons_zero,List.set_cons_succ]
    refine Late.tn 12 hH ?_
    try simp only [Act.put,List.setIfInBounds_toArray,List.set_cons_zero,List.set_cons_succ]
    refine Late.tn 13 hH ?_
    try simp only [Act.put,List.setIfInBounds_toArray,List.set_cons_zero,List.set_cons_succ]
    refine Late.tn 14 hH ?_
    try simp only [Act.put,List.setIfInBounds_toArray,List.set_cons_zero,List.set_cons_succ]
    refine Late.tn 15 hH ?_
    try simp only [Act.put,List.setIfInBounds_toArray,List.set_cons_zero,List.set_cons_succ]
    refine Late.tn 16 hH ?_
    try simp only [Act.put,List.setIfInBounds_toArray,List.set_cons_zero,List.set_cons_succ]
    refine Late.tn 17 hH ?_
    try simp only [Act.put,List.setIfInBounds_toArray,List.set_cons_zero,List.set_cons_succ]
    refine Late.tn 18 hH ?_
    try simp only [Act.put,List.setIfInBounds_toArray,List.set_cons_zero,List.set_cons_succ]
    refine Late.tk 19 ?_ ?_ hH ?_;rotate_left 2
    rotate_left
    any_goals (intro wy hSw;(try dsimp only at hSw);obtain ⟨j,rfl⟩:=hSw;obtain ⟨hck,-,hz1,hk1,hk1'⟩:=HZ.out;go_simp;try (with_reducible rfl))
    try simp only [Act.put,List.setIfInBounds_toArray,List.set_cons_zero,List.set_cons_succ]
    refine Late.tk 20 ?_ ?_ hH ?_;rotate_left 2
    rotate_left
    any_goals (intro wy hSw;(try dsimp only at hSw);obtain ⟨j,rfl⟩:=hSw;obtain ⟨hck,-,hz1,hk1,hk1'⟩:=HZ.out;go_simp;try (with_reducible rfl))
    try simp only [Act.put,List.setIfInBounds_toArray,List.set_cons_zero,List.set_cons_succ]
    refine Late.Goes.done (by kernel_rfl) ?_ _
    go_wp2_with fail
    go_roundw
    case rel=>exact ⟨k+1,m+1,by omega,by go_num,rfl⟩
    case measure=>simp [intOf];omega
   ·have hlt2:k - 1 < nums.length:=by omega
    have hck2:=HC.out (k - 1) hlt2
    have hr:=List.pairwise_iff_getElem.1 HH.out.2.1.lg.num.rising (k - 1) k hlt2 hlt (by omega)
    have ew:IntKind.i64.wrap ((k:Int) - 1)=((k - 1:Nat):Int):=by rw [IntKind.wrap_i64];omega
    have hi2:decide (0≤((k - 1:Nat):Int))=true:=decide_eq_true (by omega)
    obtain ⟨z,hz⟩:∃ z,z=nums[k]:=⟨_,rfl⟩
    obtain ⟨y,hy⟩:∃ y,y=nums[k - 1]:=⟨_,rfl⟩
    rw [← hz] at hck hpos hlow hr
    rw [← hy] at hck2 hr
    have hz1:decide ((z:Int) < 1)=false:=decide_eq_false (by omega)
    have hz2:decide ((z:Int)≤(y:Int))=false∧decide (z≤y)=false:=⟨decide_eq_false (by omega),decide_eq_false (by omega)⟩
    have hk1:decide ((0:Int) < (k:Int))=true∧decide (0 < k)=true:=⟨decide_eq_true (by omega),decide_eq_true (by omega)⟩
    obtain ⟨k2,hk2⟩:∃ k2,k2=k - 1:=⟨_,rfl⟩
    rw [← hk2] at hck2 ew hlt2
    have HZ:=Lib.hid (And.intro hck (And.intro hck2 (And.intro ew (And.intro hlt2 (And.intro hz1 (And.intro hz2 hk1))))))
    clear hz hy hck hck2 ew hlt2 hz1 hz2 hk1 hpos hlow hr hi2 hk0 hk2
    go_wp2_with fail
    refine Late.region_goes (fun u=>∃ j,u=w1.drewN j) (fun _=>false) (by kernel_rfl) ?_ (fun hH=>?_)
    ·exact ⟨m+1,rfl⟩
    refine Late.tk 0 ?_ ?_ hH ?_;rotate_left 2
    rotate_left
    any_goals (intro wy hSw;(try dsimp only at hSw);obtain ⟨j,rfl⟩:=hSw;obtain ⟨hck,hck2,ew,hlt2,hz1,⟨hz2,hz2'⟩,hk1,hk1'⟩:=HZ.out;go_simp;try (with_reducible rfl))
    try simp only [Act.put,List.setIfInBounds_toArray,List.set_cons_zero,List.set_cons_succ]
    refine Late.tk 1 ?_ ?_ hH ?_;rotate_left 2
    rotate_left
    any_goals (intro wy hSw;(try dsimp only at hSw);obtain ⟨j,rfl⟩:=hSw;obtain ⟨hck,hck2,ew,hlt2,hz1,⟨hz2,hz2'⟩,hk1,hk1'⟩:=HZ.out;go_simp;try (with_reducible rfl))
    try simp only [Act.put,List.setIfInBounds_toArray,List.set_cons_zero,List.set_cons_succ]
    refine Late.tk 2 ?_ ?_ hH ?_;rotate_left 2
    rotate_left
    any_goals (intro wy hSw;(try dsimp only at hSw);obtain ⟨j,rfl⟩:=hSw;obtain ⟨hck,hck2,ew,hlt2,hz1,⟨hz2,hz2'⟩,hk1,hk1'⟩:=HZ.out;go_simp;try (with_reducible rfl))
    try simp only [Act.put,List.setIfInBounds_toArray,List.set_cons_zero,List.set_cons_succ]
    refine Late.tk 3 ?_ ?_ hH ?_;rotate_left 2
    rotate_left
    any_goals (intro wy hSw;(try dsimp only at hSw);obtain ⟨j,rfl⟩:=hSw;obtain ⟨hck,hck2,ew,hlt2,hz1,⟨hz2,hz2'⟩,hk1,hk1'⟩:=HZ.out;go_simp;try (with_reducible rfl))
    try simp only [Act.put,List.setIfInBounds_toArray,List.set_cons_zero,List.set_cons_succ]
    refine Late.tk 4 ?_ ?_ hH ?_;rotate_left 2
    rotate_left
    any_goals (intro wy hSw;(try dsimp only at hSw);obtain ⟨j,rfl⟩:=hSw;obtain ⟨hck,hck2,ew,hlt2,hz1,⟨hz2,hz2'⟩,hk1,hk1'⟩:=HZ.out;go_simp;try (with_reducible rfl))
    try simp only [Act.put,List.setIfInBounds_toArray,List.set_cons_zero,List.set_cons_succ]
    refine Late.tk 5 ?_ ?_ hH ?_;rotate_left 2
    rotate_left
    any_goals (intro wy hSw;(try dsimp only at hSw);obtain ⟨j,rfl⟩:=hSw;obtain ⟨hck,hck2,ew,hlt2,hz1,⟨hz2,hz2'⟩,hk1,hk1'⟩:=HZ.out;go_simp;try (with_reducible rfl))
    try simp only [Act.put,List.setIfInBounds_toArray,List.set_cons_zero,List.set_cons_succ]
    refine Late.tk 6 ?_ ?_ hH ?_;rotate_left 2
    rotate_left
    any_goals (intro wy hSw;(try dsimp only at hSw);obtain ⟨j,rfl⟩:=hSw;obtain ⟨hck,hck2,ew,hlt2,hz1,⟨hz2,hz2'⟩,hk1,hk1'⟩:=HZ.out;go_simp;try (with_reducible rfl))
    try simp only [Act.put,List.setIfInBounds_toArray,List.set_cons_zero,List.set_cons_succ]
    refine Late.tk 7 ?_ ?_ hH ?_;rotate_left 2
    rotate_left
    any_goals (intro wy hSw;(try dsimp only at hSw);obtain ⟨j,rfl⟩:=hSw;obtain ⟨hck,hck2,ew,hlt2,hz1,⟨hz2,hz2'⟩,hk1,hk1'⟩:=HZ.out;go_simp;try (with_reducible rfl))
    try simp only [Act.put,List.setIfInBounds_toArray,List.set_cons_zero,List.set_cons_succ]
    refine Late.tk 8 ?_ ?_ hH ?_;rotate_left 2
    rotate_left
    any_goals (intro wy hSw;(try dsimp only at hSw);obtain ⟨j,rfl⟩:=hSw;obtain ⟨hck,hck2,ew,hlt2,hz1,⟨hz2,hz2'⟩,hk1,hk1'⟩:=HZ.out;go_simp;try (with_reducible rfl))
    try simp only [Act.put,List.setIfInBounds_toArray,List.set_cons_zero,List.set_cons_succ]
    refine Late.tk 9 ?_ ?_ hH ?_;rotate_left 2
    rotate_left
    any_goals (intro wy hSw;(try dsimp only at hSw);obtain ⟨j,rfl⟩:=hSw;obtain ⟨hck,hck2,ew,hlt2,hz1,⟨hz2,hz2'⟩,hk1,hk1'⟩:=HZ.out;go_simp;try (with_reducible rfl))
    try simp only [Act.put,List.setIfInBounds_toArray,List.set_cons_zero,List.set_cons_succ]
    refine Late.tk 10 ?_ ?_ hH ?_;rotate_left 2
    rotate_left
    any_goals (intro wy hSw;(try dsimp only at hSw);obtain ⟨j,rfl⟩:=hSw;obtain ⟨hck,hck2,ew,hlt2,hz1,⟨hz2,hz2'⟩,hk1,hk1'⟩:=HZ.out;go_simp;try (with_reducible rfl))
    try simp only [Act.put,List.setIfInBounds_toArray,List.set_cons_zero,List.set_cons_succ]
    refine Late.tk 11 ?_ ?_ hH ?_;rotate_left 2
    rotate_left
    any_goals (intro wy hSw;(try dsimp only at hSw);obtain ⟨j,rfl⟩:=hSw;obtain ⟨hck,hck2,ew,hlt2,hz1,⟨hz2,hz2'⟩,hk1,hk1'⟩:=HZ.out;go_simp;try (with_reducible rfl))
    try simp only [Act.put,List.setIfInBounds_toArray,List.set_cons_zero,List.set_cons_succ]
    refine Late.tk 12 ?_ ?_ hH ?_;rotate_left 2
    rotate_left
    any_goals (intro wy hSw;(try dsimp only at hSw);obtain ⟨j,rfl⟩:=hSw;obtain ⟨hck,hck2,ew,hlt2,hz1,⟨hz2,hz2'⟩,hk1,hk1'⟩:=HZ.out;go_simp;try (with_reducible rfl))
    try simp only [Act.put,List.setIfInBounds_toArray,List.set_cons_zero,List.set_cons_succ]
    refine Late.tk 13 ?_ ?_ hH ?_;rotate_left 2
    rotate_left
    any_goals (intro wy hSw;(try dsimp only at hSw);obtain ⟨j,rfl⟩:=hSw;obtain ⟨hck,hck2,ew,hlt2,hz1,⟨hz2,hz2'⟩,hk1,hk1'⟩:=HZ.out;go_simp;try (with_reducible rfl))
    try simp only [Act.put,List.setIfInBounds_toArray,List.set_cons_zero,List.set_cons_succ]
    refine Late.tk 14 ?_ ?_ hH ?_;rotate_left 2
    rotate_left
    any_goals (intro wy hSw;(try dsimp only at hSw);obtain ⟨j,rfl⟩:=hSw;obtain ⟨hck,hck2,ew,hlt2,hz1,⟨hz2,hz2'⟩,hk1,hk1'⟩:=HZ.out;go_simp;try (with_reducible rfl))
    try simp only [Act.put,List.setIfInBounds_toArray,List.set_cons_zero,List.set_cons_succ]
    refine Late.tk 15 ?_ ?_ hH ?_;rotate_left 2
    rotate_left
    any_goals (intro wy hSw;(try dsimp only at hSw);obtain ⟨j,rfl⟩:=hSw;obtain ⟨hck,hck2,ew,hlt2,hz1,⟨hz2,hz2'⟩,hk1,hk1'⟩:=HZ.out;go_simp;try (with_reducible rfl))
    try simp only [Act.put,List.setIfInBounds_toArray,List.set_cons_zero,List.set_cons_succ]
    refine Late.tk 16 ?_ ?_ hH ?_;rotate_left 2
    rotate_left
    any_goals (intro wy hSw;(try dsimp only at hSw);obtain ⟨j,rfl⟩:=hSw;obtain ⟨hck,hck2,ew,hlt2,hz1,⟨hz2,hz2'⟩,hk1,hk1'⟩:=HZ.out;go_simp;try (with_reducible rfl))
    try simp only [Act.put,List.setIfInBounds_toArray,List.set_cons_zero,List.set_cons_succ]
    refine Late.tk 17 ?_ ?_ hH ?_;rotate_left 2
    rotate_left
    any_goals (intro wy hSw;(try dsimp only at hSw);obtain ⟨j,rfl⟩:=hSw;obtain ⟨hck,hck2,ew,hlt2,hz1,⟨hz2,hz2'⟩,hk1,hk1'⟩:=HZ.out;go_simp;try (with_reducible rfl))
    try simp only [Act.put,List.setIfInBounds_toArray,List.set_cons_zero,List.set_cons_succ]
    refine Late.tk 18 ?_ ?_ hH ?_;rotate_left 2
    rotate_left
    any_goals (intro wy hSw;(try dsimp only at hSw);obtain ⟨j,rfl⟩:=hSw;obtain ⟨hck,hck2,ew,hlt2,hz1,⟨hz2,hz2'⟩,hk1,hk1'⟩:=HZ.out;go_simp;try (with_reducible rfl))
    try simp only [Act.put,List.setIfInBounds_toArray,List.set_cons_zero,List.set_cons_succ]
    refine Late.tk 19 ?_ ?_ hH ?_;rotate_left 2
    rotate_left
    any_goals (intro wy hSw;(try dsimp only at hSw);obtain ⟨j,rfl⟩:=hSw;obtain ⟨hck,hck2,ew,hlt2,hz1,⟨hz2,hz2'⟩,hk1,hk1'⟩:=HZ.out;go_simp;try (with_reducible rfl))
    try simp only [Act.put,List.setIfInBounds_toArray,List.set_cons_zero,List.set_cons_succ]
    refine Late.tk 20 ?_ ?_ hH ?_;rotate_left 2
    rotate_left
    any_goals (intro wy hSw;(try dsimp only at hSw);obtain ⟨j,rfl⟩:=hSw;obtain ⟨hck,hck2,ew,hlt2,hz1,⟨hz2,hz2'⟩,hk1,hk1'⟩:=HZ.out;go_simp;try (with_reducible rfl))
    try simp only [Act.put,List.setIfInBounds_toArray,List.set_cons_zero,List.set_cons_succ]
    refine Late.Goes.done (by kernel_rfl) ?_ _
    go_wp2_with fail
    go_roundw
    case rel=>exact ⟨k+1,m+1,by omega,by go_num,rfl⟩
    case measure=>simp [intOf];omega
  ·have hkl:k=nums.length:=by omega
   have HS2:=Lib.hid (HS1.out.below (below_drewN w1 m))
   obtain ⟨w2,hw2⟩:∃ V,V=w1.drewN m:=⟨_,rfl⟩
   rw [← hw2] at HS2 ⊢
   have b0:w2.cell? ⟨w.heap.size,0,none⟩=some (.slice a n cp):=HS2.out.st.cell 0
   subst hkl
   have hz0:((nums.length:Int) == 0)=false:=beq_eq_false_iff_ne.2 (by omega)
   have hz0':(nums.length == 0)=false:=beq_eq_false_iff_ne.2 (by omega)
   obtain ⟨N,hN⟩:∃ N,N=nums.length:=⟨_,rfl⟩
   rw [← hN] at hz0 hz0' ⊢
   clear hw2 HS1 HC hglt hlt hk hN hn0
   go_wp2_with fail
   clear b0 hz0 hz0'
   go_loopw [8,10] (fun s i wr=>∃ k:Nat,k≤n∧i = .int .i64 (k:Int)∧s = .int .i64 ((((ss.map Sp.len).take k).sum:Nat):Int)∧AsS w a n cp B b wr) (fun _ i _=>n - (intOf i).toNat)
   case atStart=>exact ⟨0,Nat.zero_le _,rfl,rfl,HS2.out⟩
   case round =>
    obtain ⟨k,hk,rfl,rfl,hS3⟩:=hrel
    have HS3:=Lib.hid hS3
    clear hS3
    by_cases hlt:k < n
    ·have hk1:k < ss.length:=by have:=HN.out.2.1;omega
     have hk2:k < ls.length:=by have:=HN.out.1;omega
     have hkA:k < (allSpots nums fr).length:=by rw [← HN.out.2.2.1];exact hk1
     have hkB:k < (all nums fr).length:=by have:=HN.out.2.2.2;omega
     obtain ⟨q,off,rfl,hqlt,hqc⟩:=HH.out.2.2.2.1 (by omega)
     obtain ⟨q2,off2,rfl,hqlt2,hqc2⟩:=HH.out.2.2.2.2.1.2 (by omega)
     obtain ⟨f,x1,x2,x3,x4⟩:=spot_at HH.out.2.1 hkA hkB
     have hsk:(allSpots nums fr)[k]'hkA=ss[k]:=by simp [HN.out.2.2.1]
     have hak:(all nums fr)[k]'hkB=ls[k].l:=by simp [← HH.out.2.2.2.2.2.1]
     rw [hsk] at x1 x2 x3 x4
     rw [hak] at x4
     have hb:=HS3.out.bl
     have HEb:=Lib.hid (show ∀ V,Below w.heap.size w V→V.cell? ⟨q,off+k * 3,none⟩=some (.int .i64 (ss[k].seg:Int))∧V.cell? ⟨q,off+k * 3+1,none⟩=some (.int .i64 (ss[k].at_:Int))∧V.cell? ⟨q,off+k * 3+2,none⟩=some (.int .i64 (ss[k].len:Int))∧V.cell? ⟨q2,off2+k,none⟩=some (.slice ls[k].a ls[k].l.length ls[k].cap) from fun V hb =>
      ⟨(hb.cell (p:=⟨q,off+k * 3,none⟩) hqlt).trans (hqc k hkA 0 _ (by rw [hsk];rfl)),(hb.cell (p:=⟨q,off+k * 3+1,none⟩) hqlt).trans (hqc k hkA 1 _ (by rw [hsk];rfl)),(hb.cell (p:=⟨q,off+k * 3+2,none⟩) hqlt).trans (hqc k hkA 2 _ (by rw [hsk];rfl)),(hb.cell (p:=⟨q2,off2+k,none⟩) hqlt2).trans (hqc2 k hk2)⟩)
     have hrl:=HH.out.2.2.2.2.1.1 ls[k] (List.getElem_mem hk2)
     have hll:=HH.out.2.2.2.2.2.2 ls[k] (List.getElem_mem hk2)
     have hst:=sum_take (ss.map Sp.len) k (by simpa using hk1)
     have hsk3:(ss.map Sp.len)[k]'(by simpa using hk1)=ss[k].len:=by simp
     rw [hsk3] at hst
     have htl:=take_sum_le (ss.map Sp.len) (k+1)
     have hsm:(ss.map Sp.len).sum≤200000000000:=by
      rw [HN.out.2.2.1,sum_spots]
      have h1:=sum_le (szs nums fr) (szs nums fr).length 2000000000 (szs_bound HH.out.1 HH.out.2.1)
      rw [List.take_length,szs_length] at h1
      have h2:=Nat.mul_le_mul_right 2000000000 hmany
      omega
     have hlow:=HH.out.2.1.lows _ x1
     obtain ⟨sk,hsk4⟩:∃ sk,sk=ss[k]:=⟨_,rfl⟩
     obtain ⟨lk,hlk4⟩:∃ lk,lk=ls[k]:=⟨_,rfl⟩
     rw [← hsk4] at x1 x2 x3 x4 HEb hst hlow
     rw [← hlk4] at x4 HEb hrl hll
     obtain ⟨sg,at_,len⟩:=sk
     obtain ⟨la,lc,l⟩:=lk
     dsimp only at x1 x2 x3 x4 HEb hrl hll hst hlow
     obtain ⟨A,hA⟩:∃ A,A=((ss.map Sp.len).take k).sum:=⟨_,rfl⟩
     rw [← hA] at hst ⊢
     have ew:IntKind.i64.wrap ((A:Int)+(len:Int))=(A:Int)+(len:Int):=by rw [IntKind.wrap_i64];omega
     have HST:=Lib.hid hst
     have cR:=read_log (HH.out.1.below hb) HH.out.2.2.1 x1 hlow (by omega) x2 x3 x4
     obtain ⟨e0,e1,e2,f2⟩:=HEb.out wr hb
     have b0:wr.cell? ⟨w.heap.size,0,none⟩=some (.slice (some ⟨q2,off2,none⟩) n cp):=HS3.out.st.cell 0
     have HR:=Lib.hid (And.intro hrl (And.intro hll ew))
     unfold spV at cR
     clear hqc hqc2 x1 x2 x3 x4 hsk hak hrl hll hst hsk3 htl hsm hsk4 hlk4 hb hA hqlt hqlt2 hlow ew hkA hkB
     go_wp2_with fail
     refine cR.mono ?_
     rintro e w4 ⟨a4,c4,rfl,hr4,hb4⟩
     have HS4:=Lib.hid (HS3.out.below hb4)
     have c5:=same_any a4 la c4 lc l l w4 hr4 (HR.out.1.below HS4.out.bl) (by have:=HR.out.2.1;omega) (by have:=HR.out.2.1;omega)
     rw [decide_eq_true (rfl:l=l)] at c5
     clear cR e0 e1 e2 f2 b0 hr4 hb4
     obtain ⟨e0,e1,e2,f2⟩:=HEb.out w4 HS4.out.bl
     have b0:w4.cell? ⟨w.heap.size,0,none⟩=some (.slice (some ⟨q2,off2,none⟩) n cp):=HS4.out.st.cell 0
     go_wp2_with fail
     refine c5.mono ?_
     rintro e w5 ⟨rfl,j5,rfl⟩
     have HS5:=Lib.hid (HS4.out.below (below_drewN w4 j5))
     obtain ⟨w5,hw5⟩:∃ V,V=w4.drewN j5:=⟨_,rfl⟩
     rw [← hw5] at HS5 ⊢
     clear c5 e0 e1 e2 f2 b0 hw5
     obtain ⟨e0,e1,e2,f2⟩:=HEb.out w5 HS5.out.bl
     have ew:=HR.out.2.2
     clear f2 e0 e1
     go_wp2_with fail
     go_roundw
     case rel=>exact ⟨k+1,by omega,by go_num,by rw [HST.out];rfl,HS5.out⟩
     case measure=>simp [intOf];omega
    ·have hkl:k=n:=by omega
     have hall:(ss.map Sp.len).take k=ss.map Sp.len:=List.take_of_length_le (by have:=HN.out.2.1;simp;omega)
     rw [hall]
     have hsum:(ss.map Sp.len).sum=(szs nums fr).sum:=by rw [HN.out.2.2.1,sum_spots]
     rw [hsum]
     subst hkl
     have hsz:=szs_length nums fr
     have c6:=bytes_log (HH.out.1.below HS3.out.bl) (by rw [hsz];exact List.length_pos_iff.2 HH.out.2.1.lg.num.some_) (by omega) (szs_bound HH.out.1 HH.out.2.1)
     obtain ⟨A,hA⟩:∃ A,A=(szs nums fr).sum:=⟨_,rfl⟩
     rw [← hA] at c6 ⊢
     clear hall hsum hA hlt hk hsz
     go_wp2_with fail
     refine c6.mono ?_
     rintro e w' ⟨rfl,rfl⟩
     clear c6
     go_wp2_with fail
     go_ret
     exact ⟨by simp,HS3.out.bl⟩
end
end Go.Proofs.YtbhoknnjilidnaaGreatDoor.Seg
end
section
namespace Go.Proofs.YtbhoknnjilidnaaGreatDoor.Seg
open Go.Proofs.YtbhoknnjilidnaaGreatDoor.Mem
open Go.Proofs.YtbhoknnjilidnaaGreatDoor.Disk (Nm File St Eff Has grow errV used lenOf run)
open Go.Proofs.YtbhoknnjilidnaaGreatDoor.Rec (Rcd Recs Is okBody)
open Go.Proofs.YtbhoknnjilidnaaGreatDoor.Frame (frm)
open Go.ChangeShapes Go.WideShapes Go.ChangeAt Go.RowKit
section
variable {w w1 w2 W W':World} {p lb g c:Nat} {S:St} {F:Nat→Prop} {limit:Int} {nums:List Nat} {base:Nat} {begun:Bool} {zs:List Nat} {vz:Value}
theorem append_failed (h:SysAt w p lb S limit nums base begun zs true F g c vz) {a:Option Addr} {cap:Nat} {l:List Rcd} (hr:Recs w a l) (hl:l.length≤1000000) (hok:okBody l) {len:Nat} (hlen:len=(Rec.body l).length+8) :
  Calls Tryz.prog 14 #[.pointer (some ⟨lb,0,none⟩),.slice a l.length cap] w fun e w'=>e = .returned (.tuple #[spV 0 0 0,errV 15])∧Below w.heap.size w w':=by
 have hby:=Rec.body_bytes l
 have hbl:1≤(Rec.body l).length:=Torn.body_pos hok
 have hbm:(Rec.body l).length≤20000:=hok.2.2
 obtain ⟨WA,hWA⟩:∃ W,W=w.alloc (.cells #[.pointer (some ⟨lb,0,none⟩)] 26):=⟨_,rfl⟩
 have hbA:Below w.heap.size w WA:=hWA ▸ (Below.refl _ w).alloc (Nat.le_refl _) _
 have hxA:Disk.Blk WA w.heap.size 26 #[.pointer (some ⟨lb,0,none⟩)]:=hWA ▸ Disk.Blk.new _ _ _
 have hsA:WA.heap.size=w.heap.size+1:=by rw [hWA];simp
 obtain ⟨WB,hWB⟩:∃ W,W=WA.alloc (.cells #[.int .i64 0,.int .i64 0,.int .i64 0] 47):=⟨_,rfl⟩
 have hbB':Below WA.heap.size WA WB:=hWB ▸ (Below.refl _ WA).alloc (Nat.le_refl _) _
 have hbB:Below w.heap.size w WB:=hbA.trans (hbB'.mono (by omega))
 have hxB:Disk.Blk WB (w.heap.size+1) 47 #[.int .i64 0,.int .i64 0,.int .i64 0]:=by
  have:=Disk.Blk.new WA 47 #[.int .i64 0,.int .i64 0,.int .i64 0]
  rw [hsA] at this
  exact hWB ▸ this
 have hxA2:=hxA.but (But.of_new hbB' (S:=fun _=>False)) (fun h=>h)
 have hsB:WB.heap.size=w.heap.size+2:=by rw [hWB];simp [hsA]
 have hWe:WB=(w.alloc (.cells #[.pointer (some ⟨lb,0,none⟩)] 26)).alloc (.cells #[.int .i64 0,.int .i64 0,.int .i64 0] 47):=by rw [hWB,hWA]
 have c1:=Rec.recPut_any a cap l _ (hr.below hbB) (by omega)
 have H0:=Lib.hid (And.intro h (And.intro hby hlen))
 have HB:=Lib.hid hbB
 have HX:=Lib.hid (And.intro hxA2 hxB)
 have HK:=Lib.hid hok
 have HSZ:=Lib.hid hsB
 obtain ⟨b2,hb2⟩:∃ b,b=w.heap.size:=⟨_,rfl⟩
 obtain ⟨b4,hb4⟩:∃ b,b=w.heap.size+1:=⟨_,rfl⟩
 rw [← hb4,← hb2] at HX
 have HBB:=Lib.hid (And.intro hb2 hb4)
 clear h hr hbA hbB hbB' hxA hxB hxA2 hsA hsB hok hby hWA hWB
 go_enter Tryz.func14,Tryz.ntmps14
 go_wp2_with fail
 rw [← hWe,← hb4,← hb2]
 clear hWe hb2 hb4
 refine c1.mono ?_
 rintro e w1 ⟨hb1,⟨_,v,rfl,ho1⟩|⟨hno,rfl⟩⟩
 ·obtain ⟨a1,cp1,rfl,hr1,-,hD1⟩:=own_shape ho1 H0.out.2.1
  have hn1':a1=none→cp1=0:=fun hn=>by rcases hD1 with ⟨_,h,_⟩|⟨g1,h1,_⟩;exact h;rw [hn] at h1;cases h1
  have c2:=Frame.put_yes a1 cp1 (Rec.body l) w1 hr1 hn1' hbl hbm
  rw [Err.errV_zero] at c2
  have HX1:=Lib.hid (And.intro (HX.out.1.but (But.of_new hb1 (S:=fun _=>False)) (fun h=>h)) (HX.out.2.but (But.of_new hb1 (S:=fun _=>False)) (fun h=>h)))
  have HB1:=Lib.hid (HB.out.trans (hb1.mono HB.out.size))
  have HW1:=Lib.hid (show w.heap.size+2≤w1.heap.size by have:=hb1.size;have:=HSZ.out;omega)
  clear c1 hb1 ho1 hr1 hD1 hn1'
  go_wp2_with fail
  refine c2.mono ?_
  rintro e w2 ⟨v2,rfl,ho2,hb2⟩
  obtain ⟨a2,cp2,rfl,hr2,-,hD2⟩:=own_shape ho2 (Frame.frm_bytes H0.out.2.1)
  have hw1:=HB1.out.size
  have hbB2:=HB1.out.trans (hb2.mono hw1)
  have hx2:Disk.Blk w2 b2 26 #[.pointer (some ⟨lb,0,none⟩)]∧Disk.Blk w2 b4 47 #[.int .i64 0,.int .i64 0,.int .i64 0]:=⟨HX1.out.1.but (But.of_new hb2 (S:=fun _=>False)) (fun h=>h),HX1.out.2.but (But.of_new hb2 (S:=fun _=>False)) (fun h=>h)⟩
  have hbC:=(Below.refl _ w2).alloc (Nat.le_refl _) (.cells #[.slice a2 len cp2] 81)
  have hxC:Disk.Blk (w2.alloc (.cells #[.slice a2 len cp2] 81)) w2.heap.size 81 #[.slice a2 len cp2]:=Disk.Blk.new _ _ _
  have hbW:=hbB2.trans (hbC.mono hbB2.size)
  have hsys:=H0.out.1.below hbW
  have hxW:Disk.Blk (w2.alloc (.cells #[.slice a2 len cp2] 81)) b2 26 #[.pointer (some ⟨lb,0,none⟩)]∧Disk.Blk (w2.alloc (.cells #[.slice a2 len cp2] 81)) b4 47 #[.int .i64 0,.int .i64 0,.int .i64 0]:=⟨hx2.1.but (But.of_new hbC (S:=fun _=>False)) (fun h=>h),hx2.2.but (But.of_new hbC (S:=fun _=>False)) (fun h=>h)⟩
  have kw2:(w2.alloc (.cells #[.slice a2 len cp2] 81)).cell? ⟨b2,0,none⟩=some (.pointer (some ⟨lb,0,none⟩)):=hxW.1.cell 0
  have kv2:w2.cell? ⟨b2,0,none⟩=some (.pointer (some ⟨lb,0,none⟩)):=hx2.1.cell 0
  have knb:b2≠w2.heap.size:=fun e=>by have:=hx2.1.lt;omega
  obtain ⟨W,hW⟩:∃ W,W=w2.alloc (.cells #[.slice a2 len cp2] 81):=⟨_,rfl⟩
  obtain ⟨b8,hb8⟩:∃ b,b=w2.heap.size:=⟨_,rfl⟩
  rw [← hW] at hxC hbW hsys hxW
  rw [← hb8] at hxC
  have cA:=attempt_failed (hsys.log.cell 6) (.func (.func 37) #[] #[.pointer (some ⟨b2,0,none⟩),.pointer (some ⟨b8,0,none⟩)]) ⟨_,_,_,rfl⟩
  have HXW:=Lib.hid (And.intro hxW.1 (And.intro hxW.2 hbW))
  have k2:W.cell? ⟨b2,0,none⟩=some (.pointer (some ⟨lb,0,none⟩)):=hxW.1.cell 0
  rw [show (Rec.body l).length+8=len from hlen.symm]
  clear c2 ho2 hb2 hr2 hD2 hbB2 hx2 hbC hxC hbW hsys hxW hlen
  go_wp2_with fail
  rw [← hW,← hb8]
  clear hW hb8 kw2 kv2 knb
  refine cA.mono ?_
  rintro e w3 ⟨rfl,rfl⟩
  obtain ⟨z0,z1,z2,y0,y1,y2⟩:=spot_ret HXW.out.2.1
  have hv:=errV_bad (show (15:Int)≠0 by decide)
  rw [hv]
  have HV:=Lib.hid hv
  clear cA k2 hv
  go_wp2_with fail
  refine bodyPost_ret (Rec.results_row_tmp rfl _ _ b4 47 #[.int .i64 0,.int .i64 0,.int .i64 0] (0,0) _ rfl (((HXW.out.2.1.set_ 0 (.int .i64 0)).set_ 1 (.int .i64 0)).set_ 2 (.int .i64 0)) Tryz.underlying47 rfl spot_size) rfl ?_
  exact ⟨by rw [HV.out];rfl,below_set3 HXW.out.2.2 (by have:=HBB.out.2;omega) _ _ _⟩
 ·exact absurd HK.out hno
end
end Go.Proofs.YtbhoknnjilidnaaGreatDoor.Seg
end

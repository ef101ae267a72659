/- In one text: Torn logs by plain lists: the pieces of any bytes, and what is ahead of a cut. Rows of pieces, and the walk of torn.first. The walk of torn.Scan. The walk of the document's Scan. torn.Whole, and whether pieces are the document's: the walks. The head of the statements of layer 7: the document's example holds. Of frames that are cut: how many are ahead of the cut; lists of records that came in; a row of the frames' ends. -/
import Derived.Test.YtbhoknnjilidnaaGreatDoorG17
import Derived.Test.YtbhoknnjilidnaaGreatDoorG18
import Derived.Test.YtbhoknnjilidnaaGreatDoorG01
set_option linter.unusedSimpArgs false
set_option linter.unusedVariables false
set_option maxHeartbeats 2000000
set_option maxRecDepth 100000
section
namespace Go.Proofs.YtbhoknnjilidnaaGreatDoor.Torn
open Go.Proofs.YtbhoknnjilidnaaGreatDoor.Mem
open Go.Proofs.YtbhoknnjilidnaaGreatDoor.Rec (Rcd recsOf Is okBody recsOf_body)
open Go.Proofs.YtbhoknnjilidnaaGreatDoor.Frame (frm head inner bad many bad_frm body_frm many_frm frm_length frm_bytes bad_cut bad_short)
structure Pc where
 at_:Nat
 len:Nat
 l:List Rcd
def one (zs:List Int):Option (Nat × List Rcd):=if bad zs=0 then (recsOf (Frame.body zs)).map fun l=>(many zs,l) else none
theorem bad_zero {zs:List Int} (h:bad zs=0):1≤head zs∧head zs≤20000∧8+head zs≤zs.length∧many zs=8+head zs:=by
 have h0:=h
 unfold bad at h
 split at h
 ·omega
 ·split at h
  ·omega
  ·split at h
   ·omega
   ·refine ⟨by omega,by omega,by omega,?_⟩
    unfold many
    rw [if_pos h0]
theorem one_some {zs:List Int} {n:Nat} {l:List Rcd} (h:one zs=some (n,l)):bad zs=0∧recsOf (Frame.body zs)=some l∧n=many zs:=by
 unfold one at h
 split at h
 ·rename_i h0
  cases hr:recsOf (Frame.body zs) with
  | none=>rw [hr] at h;cases h
  | some m =>
   rw [hr] at h
   simp only [Option.map_some,Option.some.injEq,Prod.mk.injEq] at h
   exact ⟨h0,by rw [h.2],h.1.symm⟩
 ·cases h
theorem one_le {zs:List Int} {n:Nat} {l:List Rcd} (h:one zs=some (n,l)):9≤n∧n≤20008∧n≤zs.length:=by
 obtain ⟨h1,_,h3⟩:=one_some h
 have:=bad_zero h1
 omega
theorem one_yes {zs:List Int} {l:List Rcd} (h0:bad zs=0) (h:recsOf (Frame.body zs)=some l):one zs=some (many zs,l):=by
 unfold one
 rw [if_pos h0,h];rfl
theorem one_bad {zs:List Int} (h0:bad zs≠0):one zs=none:=if_neg h0
theorem one_none {zs:List Int} (h:recsOf (Frame.body zs)=none):one zs=none:=by
 unfold one
 split
 ·rw [h];rfl
 ·rfl
def scan (at_:Nat) (zs:List Int):List Pc :=
 match h:one zs with
 | some (n,l)=>⟨at_,n,l⟩ :: scan (at_+n) (zs.drop n)
 | none=>[]
termination_by zs.length
decreasing_by
 have:=one_le h
 rw [List.length_drop];omega
theorem scan_none {at_:Nat} {zs:List Int} (h:one zs=none):scan at_ zs=[]:=by
 rw [scan]
 split
 ·rename_i h1;rw [h] at h1;cases h1
 ·rfl
theorem scan_some {at_ n:Nat} {zs:List Int} {l:List Rcd} (h:one zs=some (n,l)):scan at_ zs=⟨at_,n,l⟩ :: scan (at_+n) (zs.drop n):=by
 rw [scan]
 split
 ·rename_i h1;rw [h] at h1;cases h1;rfl
 ·rename_i h1;rw [h] at h1;cases h1
def total (ps:List Pc):Nat:=(ps.map (·.len)).sum
theorem total_snoc (ps:List Pc) (p:Pc):total (ps++[p])=total ps+p.len:=by simp [total]
theorem total_cons (ps:List Pc) (p:Pc):total (p :: ps)=p.len+total ps:=by simp [total]
theorem one_nil:one []=none:=one_bad (by rw [bad_short (by simp)];omega)
theorem scan_nil (k:Nat):scan k []=[]:=scan_none one_nil
theorem scan_le (at_:Nat) (zs:List Int):total (scan at_ zs)≤zs.length∧(scan at_ zs).length≤zs.length:=by
 induction hn:zs.length using Nat.strongRecOn generalizing at_ zs with
 | _ n ih =>
  cases h:one zs with
  | none=>rw [scan_none h];simp [total]
  | some x =>
   obtain ⟨k,l⟩:=x
   have h1:=one_le h
   rw [scan_some h,total_cons,List.length_cons]
   obtain ⟨h2,h3⟩:=ih (zs.drop k).length (by rw [List.length_drop];omega) (at_+k) (zs.drop k) rfl
   rw [List.length_drop] at h2 h3
   simp only
   omega
def frames (ls:List (List Rcd)):List Int:=ls.flatMap fun l=>frm (Rec.body l)
def size (l:List Rcd):Nat:=(Rec.body l).length+8
def piecesOf:Nat→List (List Rcd)→List Pc
 | _,[]=>[]
 | at_,l :: ls=>⟨at_,size l,l⟩ :: piecesOf (at_+size l) ls
theorem body_pos {l:List Rcd} (h:okBody l):1≤(Rec.body l).length:=by
 have h1:=Rec.body_le2 h.2.1
 have h2:=h.1
 omega
theorem one_frm {l:List Rcd} (h:okBody l) (hi:∀ r ∈ l,Is r) (ys:List Int):one (frm (Rec.body l)++ys)=some (size l,l):=by
 have h1:=body_pos h
 have h2:=h.2.2
 rw [one_yes (bad_frm h1 h2 ys) (by rw [body_frm h1 h2];exact recsOf_body h hi),many_frm h1 h2];rfl
theorem scan_front {l:List Rcd} (h:okBody l) (hi:∀ r ∈ l,Is r) (at_:Nat) (ys:List Int):scan at_ (frm (Rec.body l)++ys)=⟨at_,size l,l⟩ :: scan (at_+size l) ys:=by
 rw [scan_some (one_frm h hi ys),show size l=(frm (Rec.body l)).length by rw [frm_length];rfl,List.drop_left]
theorem frames_cons (l:List Rcd) (ls:List (List Rcd)):frames (l :: ls)=frm (Rec.body l)++frames ls:=rfl
theorem frm_size (l:List Rcd):(frm (Rec.body l)).length=size l:=frm_length _
end Go.Proofs.YtbhoknnjilidnaaGreatDoor.Torn
namespace Go.Proofs.YtbhoknnjilidnaaGreatDoor.Torn
open Go.Proofs.YtbhoknnjilidnaaGreatDoor.Mem Go.Proofs.YtbhoknnjilidnaaGreatDoor.Err
open Go.Proofs.YtbhoknnjilidnaaGreatDoor.Rec (Rcd recsOf Is okBody Recs rcl recGet_any recs_of_own own_nil_cap)
open Go.Proofs.YtbhoknnjilidnaaGreatDoor.Frame (In get_any many bad body_bytes)
open Go.ChangeShapes Go.WideShapes Go.ChangeAt Go.RowKit
theorem piece_info:(Tryz.prog.info? 103).map (fun i=>(i.zero,i.size,i.bytes))=some (some (.agg #[.int .i64 0,.int .i64 0,.slice none 0 0]),3,40):=by kernel_rfl
structure Gp where
 p:Pc
 a:Option Addr
 cap:Nat
def gcells (g:Gp):List Value:=[.int .i64 (g.p.at_:Int),.int .i64 (g.p.len:Int),.slice g.a g.p.l.length g.cap]
def gpl (gs:List Gp):List Value:=gs.flatMap gcells
theorem gpl_cons (g:Gp) (gs:List Gp):gpl (g :: gs)=gcells g++gpl gs:=rfl
theorem gpl_snoc (gs:List Gp) (g:Gp):gpl (gs++[g])=gpl gs++gcells g:=by
 unfold gpl
 rw [List.flatMap_append]
 simp
theorem gpl_get (gs:List Gp) (i j:Nat) (hi:i < gs.length) (hj:j < 3):(gpl gs)[i * 3+j]?=(gcells gs[i])[j]?:=by
 induction gs generalizing i with
 | nil=>simp at hi
 | cons g gs ih =>
  have hl:(gcells g).length=3:=by simp [gcells]
  rw [gpl_cons]
  rcases i with _|i
  ·rw [Nat.zero_mul,Nat.zero_add,List.getElem?_append_left (by omega)]
   simp
  ·rw [List.getElem?_append_right (by omega),hl,show (i+1) * 3+j - 3=i * 3+j by omega,ih i (by simpa using hi)]
   simp
theorem gcells_one (g:Gp):∀ u ∈ gcells g,u.oneCell'=true:=by
 simp [gcells,Value.oneCell']
def Lies (w:World) (v:Value) (g:Gp):Prop:=Recs w g.a g.p.l∧∀ x,g.a=some x→x.block < w.heap.size∧v.ownBlock≠some x.block
theorem Lies.below {w w':World} {v:Value} {g:Gp} (h:Lies w v g) (hb:Below w.heap.size w w'):Lies w' v g :=
 ⟨h.1.below hb,fun x hx=>⟨Nat.lt_of_lt_of_le (h.2 x hx).1 hb.size,(h.2 x hx).2⟩⟩
theorem Lies.onto {w w':World} {v v':Value} {g:Gp} (h:Lies w v g) (hb:Onto w w' v v'):Lies w' v' g:=by
 refine ⟨h.1.but hb.but (fun x hx e=>(h.2 x hx).2 e.symm),fun x hx=>⟨Nat.lt_of_lt_of_le (h.2 x hx).1 hb.grown.size,fun e=>?_⟩⟩
 rcases hb.own with h1|h1
 ·exact (h.2 x hx).2 (h1 ▸ e)
 ·have:=h1 _ e
  have:=(h.2 x hx).1
  omega
def Pcs (w:World) (a:Option Addr) (gs:List Gp):Prop :=
 (∀ g ∈ gs,Recs w g.a g.p.l)∧(0 < gs.length→∃ b off,a=some ⟨b,off,none⟩∧b < w.heap.size∧∀ i (h:i < gs.length) j u,(gcells gs[i])[j]?=some u→w.cell? ⟨b,off+i * 3+j,none⟩=some u)
theorem Pcs.below {w w':World} {a:Option Addr} {gs:List Gp} (h:Pcs w a gs) (hb:Below w.heap.size w w'):Pcs w' a gs:=by
 refine ⟨fun g hg=>(h.1 g hg).below hb,fun hn=>?_⟩
 obtain ⟨b,off,rfl,hlt,hc⟩:=h.2 hn
 exact ⟨b,off,rfl,Nat.lt_of_lt_of_le hlt hb.size,fun i hi j u hu=>(hb.cell (p:=⟨b,off+i * 3+j,none⟩) hlt).trans (hc i hi j u hu)⟩
theorem pcs_of_own {w:World} {base:Nat} {e:TypeId} {v:Value} {gs:List Gp} (h:w.ownsRow base e 3 v gs.length (gpl gs)) (hl:∀ g ∈ gs,Lies w v g) :
  ∃ a cap,v = .slice a gs.length cap∧Pcs w a gs∧cap≤maxLen:=by
 rcases h.2 with ⟨hv,hn⟩|⟨g,cap,cur,hv,hg,hh,hnc,hcm,hcs,ht⟩
 ·refine ⟨none,0,by rw [hv,hn],⟨fun g hg=>(hl g hg).1,fun hp=>by omega⟩,Nat.zero_le _⟩
 ·refine ⟨_,cap,hv,⟨fun g hg=>(hl g hg).1,fun _=>⟨g,0,rfl,(h.lt g (by rw [hv];rfl)).2,fun i hil j u hu=>?_⟩⟩,hcm⟩
  have hj:j < 3:=by
   have:=(List.getElem?_eq_some_iff.1 hu).1
   simpa [gcells] using this
  have h1:=gpl_get gs i j hil hj
  rw [hu] at h1
  have hsub:World.ownsRow w base e 3 (.slice (some ⟨g,0,none⟩) gs.length cap) gs.length (gpl gs):=by rw [← hv];exact h
  have h2:=hsub.cellAt (i * 3+j) (by omega)
  rw [Nat.zero_add,h2,h1]
theorem sees_piece (w:World) (g:Gp) (cs:Array Value) (hcs:cs.toList=gcells g) (e:TypeId) (fr:Nat × Nat) (b:Nat) (hb:b=w.heap.size):Sees (w.alloc (.cells cs e fr)) 3 (.slice (some ⟨b,0,none⟩) 1 1) 1 (gcells g):=by
 subst hb
 refine .inr ⟨_,_,rfl,by simp [gcells],fun j x hx=>?_⟩
 refine ⟨by simp,?_⟩
 rw [add_none,Nat.zero_add,World.cell?_alloc_mark]
 rw [← hcs] at hx
 simpa using hx
theorem frame_body_le (zs:List Int):(Frame.body zs).length≤20000:=by
 unfold Frame.body
 split
 ·rename_i h
  have:=bad_zero h
  rw [Frame.inner_length (by omega)];omega
 ·simp
def FirstSays (w:World) (zs:List Int) (e:Ending) (w':World):Prop :=
 Below w.heap.size w w'∧((∃ n l v,one zs=some (n,l)∧e = .returned (.tuple #[v,.int .i64 ((n:Nat):Int),.bool true])∧w'.ownsRow w.heap.size 79 14 v l.length (rcl l)∧(∀ r ∈ l,Is r)) ∨
  (one zs=none∧e = .returned (.tuple #[.slice none 0 0,.int .i64 0,.bool false])))
theorem first_any (a:Option Addr) (len cap:Nat) (zs:List Int) (w:World) (h:In w a len cap zs) (hl:len≤1000000) :
  Calls Tryz.prog 71 #[.slice a len cap] w fun e w'=>FirstSays w zs e w':=by
 have hg:=Frame.get_any a cap zs w (by rw [h.row.1];exact h) (by rw [h.row.1];omega)
 rw [h.row.1] at hg
 have hby:=Frame.body_bytes h.row.2.1
 have hyes:∀ l,bad zs=0→recsOf (Frame.body zs)=some l→one zs=some (many zs,l):=fun l h0 h1=>one_yes h0 h1
 have hno:recsOf (Frame.body zs)=none→one zs=none:=one_none
 have hbd:bad zs≠0→one zs=none:=one_bad
 have hle:=frame_body_le zs
 have hml:bad zs=0→many zs≤20008:=fun h0=>by have:=bad_zero h0;omega
 obtain ⟨Z,hZ⟩:∃ Z,Z=Frame.body zs:=⟨_,rfl⟩
 rw [← hZ] at hg hby hyes hno hle
 have HY:=Lib.hid (And.intro hyes (And.intro hno hbd))
 obtain ⟨m,hm⟩:∃ m,m=many zs:=⟨_,rfl⟩
 rw [← hm] at hg hml
 have HM:=Lib.hid hm
 have HG:=Lib.hid hg
 have hev:bad zs=0∧errV (bad zs:Int) = .nilIface∨bad zs≠0∧errV (bad zs:Int) = .iface 33 (.int .i64 (bad zs:Int)):=by
  by_cases h0:bad zs=0
  ·exact .inl ⟨h0,by rw [h0];rfl⟩
  ·exact .inr ⟨h0,errV_some (by omega)⟩
 clear hyes hno hbd hZ hm hg h
 go_enter Tryz.func71,Tryz.ntmps71
 go_wp2_with fail
 refine HG.out.mono ?_
 rintro e w1 ⟨v,rfl,ho,hb1⟩
 obtain ⟨a1,cap1,rfl,hr1,hn1,-⟩:=own_nil_cap ho hby
 have HB1:=Lib.hid hb1
 clear ho hb1
 rcases hev with ⟨h0,he⟩|⟨h0,he⟩
 ·rw [he]
  have hml:=hml h0
  have H0:=Lib.hid h0
  clear h0 he HG
  have hrg:=recGet_any a1 cap1 Z w1 hr1 hn1 (by omega)
  obtain ⟨K,hK⟩:∃ K,K=Z.length:=⟨_,rfl⟩
  rw [← hK] at hrg ⊢
  have HRG:=Lib.hid hrg
  clear hrg hK hr1 hle
  go_wp2_with fail
  refine HRG.out.mono ?_
  rintro e w2 ⟨hb2,⟨l,v2,hso,rfl,ho2,his⟩|⟨hso,rfl⟩⟩
  ·have HB2:=Lib.hid (HB1.out.trans (hb2.mono HB1.out.size))
   have HF:=Lib.hid (And.intro hso (And.intro ho2 his))
   have HS1:=Lib.hid HB1.out.size
   clear hso ho2 his hb2 HRG
   go_wp2_with fail
   go_ret3
   refine ⟨HB2.out,.inl ⟨m,l,v2,by rw [HM.out];exact HY.out.1 l H0.out HF.out.1,rfl,?_,HF.out.2.2⟩⟩
   have k:=HF.out.2.1
   exact ⟨k.1,by
    rcases k.2 with h|⟨g',c',cur',q1,q2,q3⟩
    ·exact .inl h
    ·exact .inr ⟨g',c',cur',q1,Nat.le_trans HS1.out q2,q3⟩⟩
  ·have HB2:=Lib.hid (HB1.out.trans (hb2.mono HB1.out.size))
   have HF:=Lib.hid (HY.out.2.1 hso)
   clear hso hb2 HRG
   go_wp2_with fail
   go_ret3
   exact ⟨HB2.out,.inr ⟨HF.out,rfl⟩⟩
 ·rw [he]
  have HF:=Lib.hid (HY.out.2.2 h0)
  clear h0 he HG hr1
  go_wp2_with fail
  go_ret3
  exact ⟨HB1.out,.inr ⟨HF.out,rfl⟩⟩
end Go.Proofs.YtbhoknnjilidnaaGreatDoor.Torn
namespace Go.Proofs.YtbhoknnjilidnaaGreatDoor.Torn
open Go.Proofs.YtbhoknnjilidnaaGreatDoor.Mem Go.Proofs.YtbhoknnjilidnaaGreatDoor.Err
open Go.Proofs.YtbhoknnjilidnaaGreatDoor.Rec (Rcd recsOf Is okBody Recs rcl recGet_any recs_of_own own_nil_cap)
open Go.Proofs.YtbhoknnjilidnaaGreatDoor.Frame (In get_any many bad body_bytes)
open Go.ChangeShapes Go.WideShapes Go.ChangeAt Go.RowKit
def New (w:World) (g:Gp):Prop:=∀ x,g.a=some x→w.heap.size≤x.block
def ScanNew (w:World) (zs:List Int) (e:Ending) (w':World):Prop :=
 Below w.heap.size w w'∧∃ (gs:List Gp) (a:Option Addr) (cap:Nat),gs.map (·.p)=scan 0 zs∧e = .returned (.tuple #[.slice a gs.length cap,.int .i64 ((total (scan 0 zs):Nat):Int)])∧Pcs w' a gs∧(∀ x,a=some x→w.heap.size≤x.block)∧∀ g ∈ gs,∀ x,g.a=some x→w.heap.size≤x.block∧x.block < w'.heap.size
def Done (w:World) (T:TypeId) (zs:List Int) (L:Nat) (wr:World) (v:Value) (gs:List Gp) (k:Nat):Prop :=
 wr.ownsRow w.heap.size T 3 v gs.length (gpl gs)∧(∀ g ∈ gs,Lies wr v g∧New w g)∧scan 0 zs=gs.map (·.p)++scan k (zs.drop k)∧total (gs.map (·.p))=k∧Below w.heap.size w wr
theorem in_part {w:World} {g off:Nat} {L cap:Nat} {zs:List Int} (h:In w (some ⟨g,off,none⟩) L cap zs) (k:Nat) (hk:k≤L) (y:Addr) (hy:0 < L - k→y=⟨g,off+k,none⟩):In w (some y) (L - k) (cap - k) (zs.drop k):=by
 have hf:=h.fits
 have hs:=h.small
 have hl:=h.row.1
 refine ⟨?_,by omega,by omega,fun e=>by cases e⟩
 have r:=Pack.Row.part h.row k (L - k) (by omega) (some y) (fun hn=>by rw [hy hn])
 rw [List.take_of_length_le (by rw [List.length_drop];omega)] at r
 exact r
theorem Done.next {w wr w2 w3:World} {T:TypeId} {zs:List Int} {L:Nat} {v v':Value} {gs:List Gp} {k n:Nat} {l:List Rcd} {a:Option Addr} {cap:Nat} (h:Done w T zs L wr v gs k) (hn:one (zs.drop k)=some (n,l)) (hb:Below wr.heap.size wr w2) (hg:Recs w2 a l) (hga:∀ x,a=some x→wr.heap.size≤x.block∧x.block < w2.heap.size) (o:Obj)
  (ho:w3.ownsRow w.heap.size T 3 v' (gs.length+1) (gpl gs++gcells ⟨⟨k,n,l⟩,a,cap⟩)) (hon:Onto (w2.alloc o) w3 v v'):Done w T zs L w3 v' (gs++[⟨⟨k,n,l⟩,a,cap⟩]) (k+n):=by
 obtain ⟨h1,h2,h3,h4,h5⟩:=h
 have hv2:∀ j,v.ownBlock=some j→j < w2.heap.size:=fun j hj=>Nat.lt_of_lt_of_le (h1.lt j hj).2 hb.size
 have hon2:=hon.of_alloc hv2
 have hb2:Below w.heap.size w w2:=h5.trans (hb.mono h5.size)
 have ho2:=ownsRow_but h1 (But.of_new hb (S:=fun _=>False)) (fun _ _ e=>e)
 refine ⟨by rw [gpl_snoc,List.length_append];exact ho,fun x hx=>?_,?_,?_,hb2.trans (hon2.below ho2 hb2.size)⟩
 ·rcases List.mem_append.1 hx with hx|hx
  ·exact ⟨((h2 x hx).1.below hb).onto hon2,(h2 x hx).2⟩
  ·rw [List.mem_singleton.1 hx]
   refine ⟨Lies.onto (v:=v) ⟨hg,fun x hx=>⟨(hga x hx).2,fun e=>?_⟩⟩ hon2,fun x hx=>Nat.le_trans h5.size (hga x hx).1⟩
   have:=(h1.lt _ e).2
   have:=(hga x hx).1
   omega
 ·rw [h3,scan_some hn,List.drop_drop]
  simp
 ·rw [List.map_append,List.map_cons,List.map_nil,total_snoc,h4]
theorem Done.some_ {w wr:World} {T:TypeId} {zs:List Int} {L:Nat} {v:Value} {gs:List Gp} {k:Nat} (h:Done w T zs L wr v gs k) (hL:zs.length=L):gs.length≤L∧k≤L:=by
 obtain ⟨h1,h2,h3,h4,h5⟩:=h
 have h6:=scan_le 0 zs
 rw [h3] at h6
 have e1:total (gs.map (·.p)++scan k (zs.drop k))=total (gs.map (·.p))+total (scan k (zs.drop k)):=by simp [total]
 rw [e1,List.length_append,List.length_map,h4] at h6
 omega
theorem recs_own_at {w:World} {base:Nat} {v:Value} {l:List Rcd} (h:w.ownsRow base 79 14 v l.length (rcl l)) (hi:∀ r ∈ l,Is r) :
  ∃ a cap,v = .slice a l.length cap∧Recs w a l∧cap≤maxLen∧∀ x,a=some x→base≤x.block∧x.block < w.heap.size:=by
 obtain ⟨a,cap,rfl,hr,hc⟩:=recs_of_own h hi
 refine ⟨a,cap,rfl,hr,hc,fun x hx=>?_⟩
 subst hx
 rcases h.2 with ⟨h1,_⟩|⟨g,cap',cur,h1,h2,h3,h4⟩
 ·cases h1
 ·have:=h.lt g (by rw [h1];rfl)
  injection h1 with h1
  injection h1 with h1
  rw [h1]
  exact this
theorem own_new {w:World} {base:Nat} {e:TypeId} {size n m:Nat} {va:Option Addr} {vc:Nat} {xs:List Value} (h:w.ownsRow base e size (.slice va n vc) m xs):∀ x,va=some x→base≤x.block:=by
 intro x hx
 subst hx
 rcases h.2 with ⟨h1,_⟩|⟨g,cap',cur,h1,h2,h3,h4⟩
 ·cases h1
 ·injection h1 with h1
  injection h1 with h1
  rw [h1]
  exact h2
theorem pcs_fix {w:World} {base:Nat} {e:TypeId} {va:Option Addr} {n vc:Nat} {gs:List Gp} (h:w.ownsRow base e 3 (.slice va n vc) gs.length (gpl gs)) (hl:∀ g ∈ gs,Lies w (.slice va n vc) g):Pcs w va gs:=by
 obtain ⟨a,cap,hv,hp,_⟩:=pcs_of_own h hl
 injection hv with hv
 rw [hv];exact hp
theorem scan_empty (a:Option Addr) (cap:Nat) (w:World) (h:In w a 0 cap []) :
  Calls Tryz.prog 45 #[.slice a 0 cap] w fun e w'=>ScanNew w [] e w':=by
 have hone:=one_nil
 have hfirst:=fun a cap wr hw=>first_any a 0 cap [] wr hw (by omega)
 have HF:=Lib.hid hfirst
 have hs:=h.small
 simp only [maxLen] at hs
 have hs2:(cap:Int)≤9223372036854775807:=by omega
 clear hfirst hs
 rcases a with _|x
 ·have hc:cap=0:=h.nil rfl
  subst hc
  clear h
  go_enter Tryz.func45,Tryz.ntmps45
  go_wp2_with fail
  go_loopw [4,5,6,7,8] (fun v i _ _ _ wr=>v = .slice none 0 0∧i = .int .i64 0∧wr=w) (fun _ _ _ _ _ _=>0)
  case atStart=>exact ⟨rfl,rfl,rfl⟩
  case round =>
   obtain ⟨rfl,rfl,rfl⟩:=hrel
   go_wp2_with fail
   refine (HF.out none 0 wr ⟨Row.nil,Nat.le_refl _,Nat.zero_le _,fun _=>rfl⟩).mono ?_
   rintro e w2 ⟨hb2,⟨n,l,v,h1,_⟩|⟨_,rfl⟩⟩
   ·rw [hone] at h1;cases h1
   ·have HB:=Lib.hid hb2
    clear hb2
    go_wp2_with fail
    go_ret2
    exact ⟨HB.out,[],none,0,by rw [scan_nil];rfl,by rw [scan_nil];rfl,⟨fun _ h=>absurd h List.not_mem_nil,fun h=>absurd h (by simp)⟩,(fun _ h=>by cases h),fun _ h=>absurd h List.not_mem_nil⟩
 ·clear h
  go_enter Tryz.func45,Tryz.ntmps45
  go_wp2_with fail
  go_loopw [4,5,6,7,8] (fun v i _ _ _ wr=>v = .slice none 0 0∧i = .int .i64 0∧wr=w) (fun _ _ _ _ _ _=>0)
  case atStart=>exact ⟨rfl,rfl,rfl⟩
  case round =>
   obtain ⟨rfl,rfl,rfl⟩:=hrel
   go_wp2_with fail
   refine (HF.out _ _ wr ⟨Row.nil,Nat.zero_le _,by simp only [maxLen];omega,fun h=>by cases h⟩).mono ?_
   rintro e w2 ⟨hb2,⟨n,l,v,h1,_⟩|⟨_,rfl⟩⟩
   ·rw [hone] at h1;cases h1
   ·have HB:=Lib.hid hb2
    clear hb2
    go_wp2_with fail
    go_ret2
    exact ⟨HB.out,[],none,0,by rw [scan_nil];rfl,by rw [scan_nil];rfl,⟨fun _ h=>absurd h List.not_mem_nil,fun h=>absurd h (by simp)⟩,(fun _ h=>by cases h),fun _ h=>absurd h List.not_mem_nil⟩
theorem scan_full (a:Option Addr) (L cap:Nat) (zs:List Int) (w:World) (h:In w a L cap zs) (h0:0 < L) (hl:L≤1000000) :
  Calls Tryz.prog 45 #[.slice a L cap] w fun e w'=>ScanNew w zs e w':=by
 obtain ⟨i0,hi0,hz0,hz1,hz2⟩:=info_parts piece_info
 obtain ⟨g,off,rfl,_⟩:=h.row.2.2 h0
 have hfirst:=fun a len cap zs wr hw hl=>first_any a len cap zs wr hw hl
 have HF:=Lib.hid hfirst
 have hzl:=h.row.1
 have HZL:=Lib.hid hzl
 have hfit:=h.fits
 have hs:=h.small
 simp only [maxLen] at hs
 have hs2:(cap:Int)≤9223372036854775807:=by omega
 have HIN:=Lib.hid h
 have HALL:=Lib.hid (fun wr v gs k (hd:Done w 103 zs L wr v gs k)=>hd.some_ hzl)
 clear hfirst hs h hzl
 go_enter Tryz.func45,Tryz.ntmps45
 go_wp2_with fail
 go_loopw [4,5,6,7,8] (fun v i _ _ _ wr=>∃ (gs:List Gp) (k:Nat) (va:Option Addr) (n vc:Nat),v = .slice va n vc∧i = .int .i64 (k:Int)∧n=gs.length∧Done w 103 zs L wr (.slice va n vc) gs k) (fun _ i _ _ _ _=>L - (intOf i).toNat)
 case atStart =>
  exact ⟨[],0,none,0,0,rfl,rfl,rfl,World.ownsRow_nil _ _ _ _,fun g hg=>absurd hg List.not_mem_nil,rfl,rfl,Below.refl _ _⟩
 case round =>
  obtain ⟨gs,k,va,n,vc,rfl,rfl,hn,hd⟩:=hrel
  have HD:=Lib.hid hd
  have HN:=Lib.hid hn
  obtain ⟨hnL,hkL⟩:=HALL.out _ _ _ _ hd
  rw [← hn] at hnL
  have hkI:(k:Int)≤(L:Int):=by omega
  have hkC:(k:Int)≤(cap:Int):=by omega
  have hin:=HIN.out.below hd.2.2.2.2
  have HP:=Lib.hid (fun y hy=>in_part hin k hkL y hy)
  have HB:=Lib.hid hd.2.2.2.2
  clear hn hd hin
  have hgo:∀ y len' cap',In wr y len' cap' (zs.drop k)→len'≤1000000→Calls Tryz.prog 71 #[.slice y len' cap'] wr fun e w'=>FirstSays wr (zs.drop k) e w':=fun y len' cap' h1 h2=>HF.out y len' cap' _ wr h1 h2
  have HGO:=Lib.hid hgo
  clear hgo
  by_cases hck:cap=k
  ·have hLk:L - k=0:=by omega
   have hdr:zs.drop k=[]:=List.drop_of_length_le (by have:=HZL.out;omega)
   have hin0:=HP.out ⟨g,off,none⟩ (fun h=>by omega)
   have HC0:=Lib.hid (HGO.out _ _ _ hin0 (by omega))
   rw [show cap - k=0 by omega] at HC0
   clear hin0 hLk
   go_wp2_with fail
   refine HC0.out.mono ?_
   rintro e w2 ⟨hb2,⟨m,l,v,h1,_⟩|⟨hno,rfl⟩⟩
   ·rw [hdr,one_nil] at h1;cases h1
   ·clear hdr HC0
    have hfin:(gs.map (·.p))=scan 0 zs:=by
     rw [HD.out.2.2.1,scan_none hno,List.append_nil]
    have htot:total (scan 0 zs)=k:=by rw [← hfin];exact HD.out.2.2.2.1
    have HNW:=Lib.hid (show (∀ x,va=some x→w.heap.size≤x.block)∧∀ g ∈ gs,∀ x,g.a=some x→w.heap.size≤x.block∧x.block < w2.heap.size from ⟨own_new HD.out.1,fun g hg x hx=>⟨(HD.out.2.1 g hg).2 x hx,Nat.lt_of_lt_of_le ((HD.out.2.1 g hg).1.2 x hx).1 hb2.size⟩⟩)
    have HFIN:=Lib.hid (And.intro hfin htot)
    have HBW:=Lib.hid (HB.out.trans (hb2.mono HB.out.size))
    have HPC:=Lib.hid (Pcs.below (hb:=hb2) (pcs_fix HD.out.1 (fun g hg=>(HD.out.2.1 g hg).1)))
    clear hb2 hno hfin htot
    go_wp2_with fail
    go_ret2
    refine ⟨HBW.out,gs,va,vc,HFIN.out.1,?_,HPC.out,HNW.out⟩
    rw [HFIN.out.2,← HN.out];rfl
  ·have hin0:=HP.out ⟨g,off+k,none⟩ (fun _=>rfl)
   have HC0:=Lib.hid (HGO.out _ _ _ hin0 (by omega))
   clear hin0
   go_wp2_with fail
   refine HC0.out.mono ?_
   rintro e w2 ⟨hb2,⟨m,l,v,hyes,rfl,ho2,his⟩|⟨hno,rfl⟩⟩
   ·obtain ⟨a2,c2,rfl,hr2,hc2,hx2⟩:=recs_own_at ho2 his
    have hle:=one_le hyes
    rw [List.length_drop,HZL.out] at hle
    have hmm:(m:Int)+(k:Int)≤(L:Int):=by omega
    have hsz:w.heap.size≤w2.heap.size:=Nat.le_trans HB.out.size hb2.size
    have ho:=ownsRow_but HD.out.1 (But.of_new hb2 (S:=fun _=>False)) (fun _ _ e=>e)
    rw [← HN.out] at ho
    have HO:=Lib.hid ho
    have HX:=Lib.hid (And.intro hyes (And.intro hb2 (And.intro hr2 hx2)))
    have hnm:n+1≤1000001:=by omega
    clear hyes hb2 hr2 hx2 ho ho2 his HC0 HGO HP
    go_wp2_with (at_builtin;refine wpList_append_onto rfl (.tmp 21) (.tmp 26) _ rfl w.heap.size 103 i0 _ 3 40 Tryz.underlying27 hi0 hz0 hz1 hz2 rfl (by omega) (.slice va n vc) n (gpl gs) rfl (ownsRow_alloc HO.out _) (.slice (some ⟨w2.heap.size,0,none⟩) 1 1) 1 (gcells ⟨⟨k,m,l⟩,a2,c2⟩) rfl (sees_piece _ ⟨⟨k,m,l⟩,a2,c2⟩ _ rfl _ _ _ rfl) (gcells_one _) (by simp only [maxLen];omega) (by omega) (by simp;omega) ?_;intro v5 w5 ho5 hon5)
    obtain ⟨hyes,hb2,hr2,hx2⟩:=HX.out
    have hd5:=Done.next (w3:=w5) HD.out hyes hb2 hr2 hx2 _ (by rw [← HN.out];exact ho5) hon5
    obtain ⟨g5,c5,rfl⟩:∃ g c,v5 = .slice (some ⟨g,0,none⟩) (n+1) c:=by
     rcases ho5.2 with ⟨_,h⟩|⟨g,cap,cur,hv,_⟩
     ·omega
     ·exact ⟨g,cap,hv⟩
    have HD5:=Lib.hid hd5
    clear hyes hb2 hr2 hx2 ho5 hon5 hd5
    go_wp2_with fail
    go_roundw
    case rel=>exact ⟨_,k+m,_,n+1,c5,rfl,by go_num,by simp [HN.out],HD5.out⟩
    case measure=>simp [intOf];omega
   ·clear HC0
    have hfin:(gs.map (·.p))=scan 0 zs:=by
     rw [HD.out.2.2.1,scan_none hno,List.append_nil]
    have htot:total (scan 0 zs)=k:=by rw [← hfin];exact HD.out.2.2.2.1
    have HNW:=Lib.hid (show (∀ x,va=some x→w.heap.size≤x.block)∧∀ g ∈ gs,∀ x,g.a=some x→w.heap.size≤x.block∧x.block < w2.heap.size from ⟨own_new HD.out.1,fun g hg x hx=>⟨(HD.out.2.1 g hg).2 x hx,Nat.lt_of_lt_of_le ((HD.out.2.1 g hg).1.2 x hx).1 hb2.size⟩⟩)
    have HFIN:=Lib.hid (And.intro hfin htot)
    have HBW:=Lib.hid (HB.out.trans (hb2.mono HB.out.size))
    have HPC:=Lib.hid (Pcs.below (hb:=hb2) (pcs_fix HD.out.1 (fun g hg=>(HD.out.2.1 g hg).1)))
    clear hb2 hno hfin htot
    go_wp2_with fail
    go_ret2
    refine ⟨HBW.out,gs,va,vc,HFIN.out.1,?_,HPC.out,HNW.out⟩
    rw [HFIN.out.2,← HN.out];rfl
theorem scan_new (a:Option Addr) (L cap:Nat) (zs:List Int) (w:World) (h:In w a L cap zs) (hl:L≤1000000) :
  Calls Tryz.prog 45 #[.slice a L cap] w fun e w'=>ScanNew w zs e w':=by
 rcases Nat.eq_zero_or_pos L with h0|h0
 ·subst h0
  obtain rfl:zs=[]:=List.eq_nil_of_length_eq_zero h.row.1
  exact scan_empty a cap w h
 ·exact scan_full a L cap zs w h h0 hl
end Go.Proofs.YtbhoknnjilidnaaGreatDoor.Torn
namespace Go.Proofs.YtbhoknnjilidnaaGreatDoor.Torn
open Go.Proofs.YtbhoknnjilidnaaGreatDoor.Mem Go.Proofs.YtbhoknnjilidnaaGreatDoor.Err
open Go.Proofs.YtbhoknnjilidnaaGreatDoor.Rec (Rcd recsOf Is okBody Recs rcl recs_of_own)
open Go.Proofs.YtbhoknnjilidnaaGreatDoor.Frame (In many bad body_bytes)
open Go.ChangeShapes Go.WideShapes Go.ChangeAt Go.RowKit
end Go.Proofs.YtbhoknnjilidnaaGreatDoor.Torn
namespace Go.Proofs.YtbhoknnjilidnaaGreatDoor.Torn
open Go.Proofs.YtbhoknnjilidnaaGreatDoor.Mem Go.Proofs.YtbhoknnjilidnaaGreatDoor.Err
open Go.Proofs.YtbhoknnjilidnaaGreatDoor.Rec (Rcd recsOf Is okBody Recs rcl)
open Go.Proofs.YtbhoknnjilidnaaGreatDoor.Frame (In)
open Go.ChangeShapes Go.WideShapes Go.ChangeAt Go.RowKit
theorem Pcs.cells {w:World} {b off:Nat} {gs:List Gp} {k:Nat} (hk:k < gs.length) (hc:∀ i (h:i < gs.length) j u,(gcells gs[i])[j]?=some u→w.cell? ⟨b,off+i * 3+j,none⟩=some u) :
  w.cell? ⟨b,off+k * 3,none⟩=some (.int .i64 (gs[k].p.at_:Int))∧w.cell? ⟨b,off+k * 3+1,none⟩=some (.int .i64 (gs[k].p.len:Int))∧w.cell? ⟨b,off+k * 3+2,none⟩=some (.slice gs[k].a gs[k].p.l.length gs[k].cap) :=
 ⟨hc k hk 0 _ rfl,hc k hk 1 _ rfl,hc k hk 2 _ rfl⟩
end Go.Proofs.YtbhoknnjilidnaaGreatDoor.Torn
namespace Go.Proofs.YtbhoknnjilidnaaGreatDoor.Torn
open Go.Proofs.YtbhoknnjilidnaaGreatDoor.Mem Go.Proofs.YtbhoknnjilidnaaGreatDoor.Err
open Go.Proofs.YtbhoknnjilidnaaGreatDoor.Rec (Rcd recsOf Is May okBody Recs rcl nothing)
open Go.Proofs.YtbhoknnjilidnaaGreatDoor.Frame (In frm frm_bytes frm_length)
open Go.ChangeShapes Go.WideShapes Go.ChangeAt Go.RowKit
def ex:Rcd:=⟨2,3,1,0,0,0,0,0,0,0,nothing,nothing,0,0⟩
theorem ex_may:May ex:=by decide
theorem ex_is:Is ex:=⟨by decide,by decide,by decide,by decide,by decide,by decide,by decide,by decide,by decide,by decide,by decide⟩
theorem ex_body:Rec.body [ex]=[2,3,1,0,0,0]:=by decide
theorem ex_ok:okBody [ex]:=⟨by decide,fun r hr=>by rw [List.mem_singleton.1 hr];exact ex_may,by rw [ex_body];decide⟩
theorem ex_all:∀ r ∈ [ex],Is r:=fun r hr=>by rw [List.mem_singleton.1 hr];exact ex_is
theorem ex_size:size [ex]=14:=by unfold size;rw [ex_body];rfl
end Go.Proofs.YtbhoknnjilidnaaGreatDoor.Torn
end
section
namespace Go.Proofs.YtbhoknnjilidnaaGreatDoor.Torn
open Go.Proofs.YtbhoknnjilidnaaGreatDoor.Mem Go.Proofs.YtbhoknnjilidnaaGreatDoor.Err
open Go.Proofs.YtbhoknnjilidnaaGreatDoor.Rec (Rcd recsOf Is May okBody Recs rcl)
open Go.Proofs.YtbhoknnjilidnaaGreatDoor.Frame (In frm)
open Go.ChangeShapes Go.WideShapes Go.ChangeAt Go.RowKit
theorem frames_snoc (ls:List (List Rcd)) (k:Nat) (h:k < ls.length):frames (ls.take (k+1))=frames (ls.take k)++frm (Rec.body ls[k]):=by
 unfold frames
 rw [List.take_succ_eq_append_getElem h,List.flatMap_append]
 simp
section
variable {ls:List (List Rcd)}
end
structure Lg where
 a:Option Addr
 cap:Nat
 l:List Rcd
def Lists (w:World) (a:Option Addr) (gs:List Lg):Prop :=
 (∀ g ∈ gs,Recs w g.a g.l)∧(0 < gs.length→∃ b off,a=some ⟨b,off,none⟩∧b < w.heap.size∧∀ i (h:i < gs.length),w.cell? ⟨b,off+i,none⟩=some (.slice gs[i].a gs[i].l.length gs[i].cap))
theorem Lists.below {w w':World} {a:Option Addr} {gs:List Lg} (h:Lists w a gs) (hb:Below w.heap.size w w'):Lists w' a gs:=by
 refine ⟨fun g hg=>(h.1 g hg).below hb,fun hn=>?_⟩
 obtain ⟨b,off,rfl,hlt,hc⟩:=h.2 hn
 exact ⟨b,off,rfl,Nat.lt_of_lt_of_le hlt hb.size,fun i hi=>(hb.cell (p:=⟨b,off+i,none⟩) hlt).trans (hc i hi)⟩
theorem int_info:(Tryz.prog.info? 3).map (fun i=>(i.zero,i.size,i.bytes))=some (some (.int .i64 0),1,8):=by kernel_rfl
end Go.Proofs.YtbhoknnjilidnaaGreatDoor.Torn
end

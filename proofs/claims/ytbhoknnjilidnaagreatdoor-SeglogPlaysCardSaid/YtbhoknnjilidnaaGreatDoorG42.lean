/- Contract: a log is opened on any disk from which it can be, with any plan: done, or the disk is down, and it can be opened again. A log as it is used, where no crash is planned: opened on a fresh disk; appended to; read. Contract: a merge is begun. -/
import Derived.Test.YtbhoknnjilidnaaGreatDoorG41
import Derived.Test.YtbhoknnjilidnaaGreatDoorG40
import Derived.Test.YtbhoknnjilidnaaGreatDoorG37
set_option linter.unusedSimpArgs false
set_option linter.unusedVariables false
set_option maxHeartbeats 8000000
set_option maxRecDepth 100000
section
namespace Go.Proofs.YtbhoknnjilidnaaGreatDoor.Seg
open Go.Proofs.YtbhoknnjilidnaaGreatDoor.Mem
open Go.Proofs.YtbhoknnjilidnaaGreatDoor.Disk (Nm File St Eff Has grow errV used run tot)
open Go.Proofs.YtbhoknnjilidnaaGreatDoor.Rec (Rcd Recs Is okBody)
open Go.Proofs.YtbhoknnjilidnaaGreatDoor.Frame (frm)
open Go.Proofs.YtbhoknnjilidnaaGreatDoor.Torn (Gp gcells gpl Pcs frames size scan total piecesOf)
open Go.ChangeShapes Go.WideShapes Go.ChangeAt Go.RowKit
section
variable {w w1 w2 W W':World} {p lb g c:Nat} {S S1 S2:St} {F F1 F2:Nat→Prop} {limit:Int} {nums:List Nat} {base:Nat} {begun:Bool} {cap:Int} {fr:Nat→List (List Rcd)} {N:Nat}
def allPieces (nums:List Nat) (fr:Nat→List (List Rcd)):List Torn.Pc:=nums.flatMap fun i=>piecesOf 0 (fr i)
def allSpots (nums:List Nat) (fr:Nat→List (List Rcd)):List Sp:=nums.flatMap fun i=>spotsOf i (piecesOf 0 (fr i))
def Reopen (w:World) (p:Nat) (F:Nat→Prop) (limit cap:Int) (N:Nat) (S:St) (nums:List Nat) (begun:Bool) (fr:Nat→List (List Rcd)) (e:Ending) (w':World):Prop :=
 (∃ T lb F1 g c ap cp aq cs vz gs ss L,e = .returned (.tuple #[.pointer (some ⟨lb,0,none⟩),.slice ap gs.length cp,.slice aq ss.length cs,.nilIface])∧SysAt w' p lb T limit nums 0 begun (szs nums (only nums fr)) false F1 g c vz∧Lv T cap nums 0 begun (only nums fr) L∧(S.plan=none→T.plan=none)∧tot T.files≤tot S.files+(15+4 * nums.length)∧(∀ k,foot lb g vz F1 k→grow F w w' k)∧But F w w' ∧
  (∃ B,w.heap.size≤B∧w'.ownsRow B 103 3 (.slice ap gs.length cp) gs.length (gpl gs)∧w'.ownsRow B 47 3 (.slice aq ss.length cs) ss.length (spl ss))∧(∀ g' ∈ gs,Recs w' g'.a g'.p.l∧∀ x,g'.a=some x→w.heap.size≤x.block∧¬ foot lb g vz F1 x.block)∧(∀ k,(Value.slice ap gs.length cp).ownBlock=some k∨(Value.slice aq ss.length cs).ownBlock=some k→¬ foot lb g vz F1 k)∧gs.map (·.p)=allPieces nums fr∧ss=allSpots nums fr) ∨
 (∃ T F1,Step w p F T w' F1∧S.plan≠none∧Fell T cap N begun (all nums fr)∧tot T.files≤tot S.files+(15+4 * nums.length)∧e = .returned (.tuple #[.pointer none,.slice none 0 0,.slice none 0 0,errV 15]))
theorem dsk_bytes (h:Dsk w p S F) {n:Nm} {f:File} (hl:Disk.look n S.files=some f):Bytes f.bytes:=by
 obtain ⟨⟨_,_,_,_,hA,_⟩,_⟩:=h
 exact (hA.good.synced (n,f) (Disk.look_mem hl)).2
theorem flatMap_cong {α β:Type} {l:List α} {f g:α→List β} (h:∀ i ∈ l,f i=g i):l.flatMap f=l.flatMap g:=by
 induction l with
 | nil=>rfl
 | cons i r ih=>rw [List.flatMap_cons,List.flatMap_cons,h i List.mem_cons_self,ih (fun k hk=>h k (List.mem_cons_of_mem _ hk))]
theorem known_short {S:St} (h:Known (vw S.files)):∀ x ∈ S.files,x.1.length≤1000000:=by
 intro x hx
 rcases h x.1 (look_names.1 (List.mem_map.2 ⟨x,hx,rfl⟩)) with h1|h1|⟨i,hi,h1⟩
 ·rw [h1];decide
 ·rw [h1];decide
 ·rw [h1]
  have:=dec_len i
  unfold seg
  rw [List.length_cons];omega
theorem reopen_log (h:Dsk w p S F) (hB:Bk S cap nums begun fr) (htop:∀ k ∈ nums,k≤N) (h98:N≤98) (hl1:100≤limit) (hl2:limit≤1073741824) (hc:((tot S.files+(15+4 * nums.length):Nat):Int)≤cap) :
  Calls Tryz.prog 6 #[.pointer (some ⟨p,0,none⟩),.int .i64 limit] w (Reopen w p F limit cap N S nums begun fr):=by
 have hlow:=hB.low
 have hlen:=low_length hB.num.rising hlow
 obtain ⟨all_,base,⟨hNa,hla,hb100⟩,hk,hm⟩:=hB.back.man
 have hlm:Disk.look nM S.files=some (full (manFile all_ base begun)):=hm
 have hcn0:manOf (full (manFile all_ base begun)).bytes=some (all_,base,begun):=manOf_put hNa (fun i hi=>by have:=hla i hi;omega) (by have:=low_length hNa.rising hla;omega) (by omega) begun
 obtain ⟨L,hL⟩:∃ L,nums.getLast?=some L:=⟨_,List.getLast?_eq_some_getLast hB.num.some_⟩
 have hkne:kept base all_≠[]:=by rw [← hk];exact hB.num.some_
 have hcan:∀ i ∈ nums,i < 100:=hlow
 have bad:∀ {rM:Int × St} {T:St},rM=(15,T)→S.plan≠none→Fell T cap N begun (all nums fr)→tot T.files≤tot S.files+(15+4 * nums.length)→∀ {r:Int × St} {fl:Nat→File} {e:Ending} {w':World},r=rM→OpenAfter w p F limit nums begun fl r e w'→Reopen w p F limit cap N S nums begun fr e w':=by
  intro rM T h1 h2 h3 h4 r fl e w' hr hO
  subst hr
  rcases hO with ⟨h0,_⟩|⟨_,⟨F1,hS⟩,he⟩
  ·rw [h1] at h0;cases h0
  ·rw [h1] at hS he
   exact .inr ⟨T,F1,hS,h2,h3,h4,he⟩
 rcases part_t hB htop (by omega) with ⟨T0,t1,t2,t3,t4,t5,t6⟩|⟨T,t1,t2,t3,t4⟩
 ·have r0:(run (opT (Disk.look nT S.files).isSome) S).1=0:=by rw [t1]
  have cM0:=openManifest_ok h hB.up.up r0 hlm (dsk_bytes h hlm) (fun x hx=>by rw [hcn0] at hx;injection hx with hx;subst hx;have:=low_length hNa.rising hla;show all_.length≤4000;omega)
  rw [hcn0] at cM0
  have cM:Calls Tryz.prog 25 #[.pointer (some ⟨p,0,none⟩)] w (ManAfter w p F (run (opM base nums begun) T0) nums 0 begun):=by
   refine cM0.mono ?_
   intro e w' hO
   unfold OMSays at hO
   simp only [if_neg hkne,t1] at hO
   rw [← hk] at hO
   exact hO
  have hm0:base=0→Disk.look nM T0.files=some (full (manFile nums 0 begun)):=fun h0=>by
   rw [t4,hlm,hk,h0,kept_zero]
  rcases part_m t2 hB.num hlow hB.ok htop t3 hm0 (by omega) with ⟨T1,m1,m2,m3,m4,m5,m6⟩|⟨T,m1,m2,m3,m4⟩
  ·have rm:(run (opM base nums begun) T0).1=0:=by rw [m1]
   rcases part_g m2 hB.num hB.ok htop m3 m4 (by omega) with ⟨T2,g1,g2,g3,g4,g5,g6⟩|⟨T,g1,g2,g3,g4⟩
   ·have htl:∀ i,∃ tail,i ∈ nums→(Disk.look (seg i) S.files=some (full (frames (fr i)++tail))∧Torn.one tail=none∧(nums.getLast?≠some i→tail=[])):=fun i=>by
     by_cases hi:i ∈ nums
     ·obtain ⟨tail,q⟩:=hB.back.segs i hi
      exact ⟨tail,fun _=>q⟩
     ·exact ⟨[],fun hh=>absurd hh hi⟩
    obtain ⟨tl,htl⟩:=Classical.skolem.1 htl
    have hlook:∀ i ∈ nums,Disk.look (seg i) T2.files=some (full (frames (fr i)++tl i)):=fun i hi=>by rw [g5 i hi,m5 i,t5 i];exact (htl i hi).1
    have hscan:∀ i ∈ nums,scan 0 (full (frames (fr i)++tl i)).bytes=piecesOf 0 (fr i)∧totOf (full (frames (fr i)++tl i))=(frames (fr i)).length:=fun i hi=>scan_all (hB.ok i hi) 0 (htl i hi).2.1
    have hmem:=last_mem hL
    have cO:=open_any (fl:=fun i=>full (frames (fr i)++tl i)) (L:=L) h hB.up.up hl1 hl2 cM hcan (by omega) hL hB.num.rising (fun _=>by rw [m1];exact known_short m2.known)
     (fun _ _=>by
      rw [m1]
      show (run (goneN (untold nums (T1.files.map (·.1)))) T1).2.down=false∧∀ i ∈ nums,Disk.look (seg i) (run (goneN (untold nums (T1.files.map (·.1)))) T1).2.files=some (full (frames (fr i)++tl i))∧Bytes (full (frames (fr i)++tl i)).bytes∧(i≠L→totOf (full (frames (fr i)++tl i))=(full (frames (fr i)++tl i)).bytes.length)
      rw [g1]
      refine ⟨g2.up.up,fun i hi=>⟨hlook i hi,dsk_bytes h (htl i hi).1,fun hne=>?_⟩⟩
      rw [(hscan i hi).2]
      have:=(htl i hi).2.2 (fun e=>by rw [hL] at e;injection e with e;exact hne e.symm)
      rw [this,List.append_nil];rfl)
    simp only [rm,if_true] at cO
    simp only [m1,g1,if_true,(hscan L hmem).2] at cO
    have hcl:(full (frames (fr L)++tl L)).bytes.length=(frames (fr L)++tl L).length:=rfl
    rw [hcl] at cO
    rcases part_c g2 hB.num hB.ok htop h98 hL g3 g4 (hlook L hmem) (by omega) with ⟨T3,c1,c2,c3,c4⟩|⟨T,c1,c2,c3,c4⟩
    ·rw [c1] at cO
     refine cO.mono ?_
     rintro e w' (⟨_,lb,F1,g,c,ap,cp,aq,cs,vz,gs,ss,he,hS,hft,hbt,hrows,hrecs,hown,hgs,hss⟩|⟨h0,_⟩)
     ·have hz:sizesIn (fun i=>full (frames (fr i)++tl i)) nums=szs nums (only nums fr):=by
       unfold sizesIn szs
       exact List.map_congr_left (fun i hi=>by rw [(hscan i hi).2,only_in hi])
      have hp:piecesIn (fun i=>full (frames (fr i)++tl i)) nums=allPieces nums fr:=by
       unfold piecesIn allPieces
       exact flatMap_cong (fun i hi=>(hscan i hi).1)
      have hs:spotsIn (fun i=>full (frames (fr i)++tl i)) nums=allSpots nums fr:=by
       unfold spotsIn allSpots
       exact flatMap_cong (fun i hi=>by rw [(hscan i hi).1])
      rw [hz] at hS
      rw [hp] at hgs
      rw [hs] at hss
      exact .inl ⟨T3,lb,F1,g,c,ap,cp,aq,cs,vz,gs,ss,L,he,hS,c2,c3,by omega,hft,hbt,hrows,hrecs,hown,hgs,hss⟩
     ·exact absurd rfl h0
    ·rw [c1] at cO
     refine cO.mono ?_
     intro e w' hO
     exact bad rfl c2 c3 (by omega) rfl hO
   ·have cO:=open_any (fl:=fun _=>⟨[],0⟩) (L:=L) h hB.up.up hl1 hl2 cM hcan (by omega) hL hB.num.rising (fun _=>by rw [m1];exact known_short m2.known)
     (fun _ h0=>by rw [m1] at h0;simp only [g1] at h0;cases h0)
    simp only [rm,if_true] at cO
    simp only [m1,g1] at cO
    refine cO.mono ?_
    intro e w' hO
    exact bad rfl g2 g3 (by omega) rfl hO
  ·have cO:=open_any (fl:=fun _=>⟨[],0⟩) (L:=L) h hB.up.up hl1 hl2 cM hcan (by omega) hL hB.num.rising (fun h0=>by rw [m1] at h0;cases h0) (fun h0=>by rw [m1] at h0;cases h0)
   simp only [m1] at cO
   refine cO.mono ?_
   intro e w' hO
   exact bad rfl m2 m3 (by omega) rfl hO
 ·have r0:(run (opT (Disk.look nT S.files).isSome) S).1≠0:=by rw [t1];exact (show (15:Int)≠0 by decide)
  have cM0:=openManifest_err h r0
  rw [t1] at cM0
  have cM:Calls Tryz.prog 25 #[.pointer (some ⟨p,0,none⟩)] w (ManAfter w p F (15,T) nums 0 begun):=by
   refine cM0.mono ?_
   rintro e w' ⟨⟨F',hS⟩,he⟩
   exact ⟨F',hS,.inr ⟨(show (15:Int)≠0 by decide),he⟩⟩
  have cO:=open_any (fl:=fun _=>⟨[],0⟩) (L:=L) h hB.up.up hl1 hl2 cM hcan (by omega) hL hB.num.rising (fun h0=>by cases h0) (fun h0=>by cases h0)
  refine cO.mono ?_
  intro e w' hO
  exact bad rfl t2 t3 (by omega) rfl hO
end
end Go.Proofs.YtbhoknnjilidnaaGreatDoor.Seg
end
section
namespace Go.Proofs.YtbhoknnjilidnaaGreatDoor.Seg
open Go.Proofs.YtbhoknnjilidnaaGreatDoor.Mem
open Go.Proofs.YtbhoknnjilidnaaGreatDoor.Disk (Nm File St Eff Has grow errV used run tot)
open Go.Proofs.YtbhoknnjilidnaaGreatDoor.Rec (Rcd Recs Is okBody)
open Go.Proofs.YtbhoknnjilidnaaGreatDoor.Frame (frm)
open Go.Proofs.YtbhoknnjilidnaaGreatDoor.Torn (Gp gcells gpl Pcs frames size scan total piecesOf)
open Go.ChangeShapes Go.WideShapes Go.ChangeAt Go.RowKit
section
variable {w w1 w2 W W':World} {p lb g g1 g2 c:Nat} {S S1 S2:St} {F F1 F2:Nat→Prop} {limit:Int} {nums:List Nat} {base:Nat} {begun:Bool} {zs:List Nat} {vz vz1 vz2:Value} {cap:Int} {fr:Nat→List (List Rcd)}
theorem dsk_fresh (cp:Int) (hc:cp≤1000000) (w:World) :
  Calls Tryz.prog 5 #[.int .i64 cp] w fun e w'=>∃ p,e = .returned (.pointer (some ⟨p,0,none⟩))∧Dsk w' p (Disk.fresh cp) (grow (fun _=>False) w w')∧Below w.heap.size w w':=by
 refine (Disk.new_any cp w).mono ?_
 rintro e w' ⟨p,rfl,_,h1,h2⟩
 exact ⟨p,rfl,⟨h1,ok_fresh hc⟩,h2.new⟩
def FreshLog (w:World) (p:Nat) (F:Nat→Prop) (limit cap:Int) (e:Ending) (w':World):Prop :=
 ∃ T lb F1 g c vz ap cp aq cq,e = .returned (.tuple #[.pointer (some ⟨lb,0,none⟩),.slice ap 0 cp,.slice aq 0 cq,.nilIface])∧SysAt w' p lb T limit [1] 0 false (szs [1] (fun _=>[])) false F1 g c vz∧Lg T cap [1] 0 false (fun _=>[])∧T.plan=none∧tot T.files≤19∧(∀ k,foot lb g vz F1 k→grow F w w' k)∧But F w w'
def FreshAt (w:World) (p:Nat) (F:Nat→Prop) (limit cap:Int) (e:Ending) (w':World):Prop :=
 ∃ T lb F1 g c vz ap cp aq cq,e = .returned (.tuple #[.pointer (some ⟨lb,0,none⟩),.slice ap 0 cp,.slice aq 0 cq,.nilIface])∧SysAt w' p lb T limit [1] 0 false (szs [1] (fun _=>[])) false F1 g c vz∧Lg T cap [1] 0 false (fun _=>[])∧T.plan=none∧tot T.files≤19∧(∀ k,foot lb g vz F1 k→grow F w w' k)∧But F w w' ∧
  ∃ B,w.heap.size≤B∧w'.ownsRow B 47 3 (.slice aq 0 cq) 0 []∧∀ k,(Value.slice aq 0 cq).ownBlock=some k→¬ foot lb g vz F1 k
theorem open_fresh_at (h:Dsk w p (Disk.fresh cap) F) (hc:100≤cap) (hl1:100≤limit) (hl2:limit≤1073741824) :
  Calls Tryz.prog 6 #[.pointer (some ⟨p,0,none⟩),.int .i64 limit] w (FreshAt w p F limit cap):=by
 obtain ⟨T,hT,hL,hpl,htot⟩:=fresh_math hc
 have cM:=openManifest_first h rfl
 rw [hT] at cM
 have hun:=untold_none hL.inv
 have hrG:run (goneN (untold [1] (T.files.map (·.1)))) T=(0,T):=by rw [hun];rfl
 have hseg:Disk.look (seg 1) T.files=some ⟨[],0⟩:=hL.inv.segs 1 (List.mem_singleton.2 rfl)
 have hto:totOf (⟨[],0⟩:File)=0:=by unfold totOf;rw [Torn.scan_nil];rfl
 have cO:=open_any (fl:=fun _=>⟨[],0⟩) (L:=1) h rfl hl1 hl2 cM (fun i hi=>by rw [List.mem_singleton.1 hi];omega) (by simp) rfl (List.pairwise_singleton _ _)
  (fun _=>names_short hL.inv (fun i hi=>by rw [List.mem_singleton.1 hi];omega) hL.up.apart)
  (fun _ _=>by
   show (run (goneN (untold [1] (T.files.map (·.1)))) T).2.down=false∧∀ i ∈ [1],Disk.look (seg i) (run (goneN (untold [1] (T.files.map (·.1)))) T).2.files=some ⟨[],0⟩∧Bytes []∧(i≠1→totOf ⟨[],0⟩=0)
   rw [hrG]
   refine ⟨hL.up.up,fun i hi=>?_⟩
   rw [List.mem_singleton.1 hi]
   exact ⟨hseg,bytes_nil,fun h=>absurd rfl h⟩)
 refine cO.mono ?_
 intro e w' hO
 unfold OpenAfter at hO
 simp only [if_true] at hO
 rw [hrG] at hO
 simp only [if_true,hto,List.length_nil,Nat.lt_irrefl,decide_false] at hO
 have hrC:run (opC false 1 0) T=(0,T):=rfl
 rw [hrC] at hO
 rcases hO with ⟨_,lb,F1,g,c,ap,cp,aq,cs,vz,gs,ss,he,hS,hft,hbt,⟨B,hB,_,hown⟩,_,hoff,hgs,hss⟩|⟨h0,_⟩
 ·have hp0:piecesIn (fun _=>(⟨[],0⟩:File)) [1]=[]:=by unfold piecesIn;simp [Torn.scan_nil]
  have hs0:spotsIn (fun _=>(⟨[],0⟩:File)) [1]=[]:=by unfold spotsIn spotsOf;simp [Torn.scan_nil]
  rw [hp0] at hgs
  rw [hs0] at hss
  have hg0:gs=[]:=List.map_eq_nil_iff.1 hgs
  subst hg0 hss
  have hz:sizesIn (fun _=>(⟨[],0⟩:File)) [1]=szs [1] (fun _=>[]):=by unfold sizesIn szs;simp [hto];rfl
  rw [hz] at hS
  exact ⟨T,lb,F1,g,c,vz,ap,cp,aq,cs,he,hS,hL,hpl,htot,hft,hbt,B,hB,hown,fun k hk=>hoff k (.inr hk)⟩
 ·exact absurd rfl h0
theorem open_fresh (h:Dsk w p (Disk.fresh cap) F) (hc:100≤cap) (hl1:100≤limit) (hl2:limit≤1073741824) :
  Calls Tryz.prog 6 #[.pointer (some ⟨p,0,none⟩),.int .i64 limit] w (FreshLog w p F limit cap) :=
 (open_fresh_at h hc hl1 hl2).mono fun e w' ⟨T,lb,F1,g,c,vz,ap,cp,aq,cq,he,hS,hL,hpl,htot,hft,hbt,_⟩=>⟨T,lb,F1,g,c,vz,ap,cp,aq,cq,he,hS,hL,hpl,htot,hft,hbt⟩
def rot (limit:Int) (z len:Nat):Prop:=0 < z∧limit < ((z+len:Nat):Int)
instance (limit:Int) (z len:Nat):Decidable (rot limit z len):=by unfold rot;infer_instance
def numsA (limit:Int) (nums:List Nat) (fr:Nat→List (List Rcd)) (i:Nat) (l:List Rcd):List Nat:=if rot limit (frames (fr i)).length (size l) then nums++[i+1] else nums
def frA (limit:Int) (fr:Nat→List (List Rcd)) (i:Nat) (l:List Rcd):Nat→List (List Rcd):=if rot limit (frames (fr i)).length (size l) then bump fr (i+1) l else bump fr i l
def lastA (limit:Int) (fr:Nat→List (List Rcd)) (i:Nat) (l:List Rcd):Nat:=if rot limit (frames (fr i)).length (size l) then i+1 else i
def atA (limit:Int) (fr:Nat→List (List Rcd)) (i:Nat) (l:List Rcd):Nat:=if rot limit (frames (fr i)).length (size l) then 0 else (frames (fr i)).length
def AppLog (w:World) (p lb g:Nat) (F:Nat→Prop) (limit:Int) (vz:Value) (cap:Int) (S:St) (nums:List Nat) (base:Nat) (begun:Bool) (fr:Nat→List (List Rcd)) (i:Nat) (l:List Rcd) (e:Ending) (w':World):Prop :=
 ∃ T F1 g1 c1 vz1,e = .returned (.tuple #[spV (lastA limit fr i l) (atA limit fr i l) (size l),.nilIface])∧KeptG w w' lb g F F1 vz g1 vz1∧SysAt w' p lb T limit (numsA limit nums fr i l) base begun (szs (numsA limit nums fr i l) (frA limit fr i l)) false F1 g1 c1 vz1∧Lg T cap (numsA limit nums fr i l) base begun (frA limit fr i l)∧T.plan=none∧tot T.files≤tot S.files+(40+size l)+4 * nums.length∧(numsA limit nums fr i l).getLast?=some (lastA limit fr i l)
theorem append_log (h:SysAt w p lb S limit nums base begun (szs nums fr) false F g c vz) (hL:Lg S cap nums base begun fr) (hpl:S.plan=none) {i:Nat} (hi:nums.getLast?=some i) {a:Option Addr} {cp:Nat} {l:List Rcd} (hr:Recs w a l) (hll:l.length≤1000000) (hl:okBody l) (hn:nums.length≤90) (hi98:i≤98) (hc:((tot S.files+(40+size l)+4 * nums.length:Nat):Int)≤cap) (hcap:cap≤1000000) (hf:fr (i+1)=[]) (hb:base < 4294967296) :
  Calls Tryz.prog 14 #[.pointer (some ⟨lb,0,none⟩),.slice a l.length cp] w (AppLog w p lb g F limit vz cap S nums base begun fr i l):=by
 have hm:=append_math hL hpl hi hl hr.1 (by omega) hc hf
 have hzl:=szs_length nums fr
 have hn0:0 < nums.length:=List.length_pos_iff.2 hL.num.some_
 have hmax:∀ k ∈ nums,k≤i:=by
  intro k hk
  obtain ⟨j,hj,rfl⟩:=List.getElem_of_mem hk
  have hil:nums[nums.length - 1]'(by omega)=i:=by
   have hi':=hi
   rw [List.getLast?_eq_getElem?,List.getElem?_eq_getElem (by omega)] at hi'
   injection hi'
  rcases Nat.lt_or_ge j (nums.length - 1) with h1|h1
  ·have:=List.pairwise_iff_getElem.1 hL.num.rising j (nums.length - 1) hj (by omega) h1
   omega
  ·have:j=nums.length - 1:=by omega
   subst this
   omega
 have hne:∀ k ∈ nums,k≠i+1:=fun k hk e=>by have:=hmax k hk;omega
 have hzb:∀ z ∈ szs nums fr,z≤2000000000:=fun z hz=>by
  obtain ⟨k,hk,rfl⟩:=List.mem_map.1 hz
  have h1:=hL.inv.segs k hk
  have h2:=Disk.total_le_of (f:=fun e:File=>e.bytes.length) (Disk.look_mem h1)
  have h3:=h.dsk.2.used
  have h4:(full (frames (fr k))).bytes.length=(frames (fr k)).length:=rfl
  unfold Disk.used at h3
  omega
 have hz0:0 < (szs nums fr).length:=by omega
 have hlast:=szs_last hi (Nat.sub_lt hz0 Nat.one_pos)
 have hzi:(frames (fr i)).length≤2000000000:=by rw [← hlast];exact hzb _ (List.getElem_mem _)
 have hsz:size l=(Rec.body l).length+8:=rfl
 have hs20:=hl.2.2
 have hp:=fun (W:World) (a':Option Addr) (cap':Nat) (hbW:Below w.heap.size w W) (hrW:Row W a' (size l) (frm (Rec.body l))) (hnW:a'=none→cap'=0) (haW:∀ q,a'=some q→0 < size l→w.heap.size≤q.block) =>
  put_log (h.below hbW) hrW hnW (fun q hq h0 hft=>by have h1:=haW q hq h0;have h2:=h.lt q.block hft;omega) (by omega) hi (by omega) (by omega) (fun j hj=>by have:=hmax j hj;omega) hb hL.inv.t hz0 (by omega) hzb
 simp only [hlast] at hp
 by_cases hro:rot limit (frames (fr i)).length (size l)
 ·obtain ⟨T,hT,hLT,hplT,htT⟩:=hm.2
  have e1:numsA limit nums fr i l=nums++[i+1]:=if_pos hro
  have e2:frA limit fr i l=bump fr (i+1) l:=if_pos hro
  have e3:lastA limit fr i l=i+1:=if_pos hro
  have e4:atA limit fr i l=0:=if_pos hro
  have e5:=szs_more (l:=l) hne hf
  have hro':0 < (frames (fr i)).length∧limit < (((frames (fr i)).length+size l:Nat):Int):=hro
  have hp':∀ W a' cap',Below w.heap.size w W→Row W a' (size l) (frm (Rec.body l))→(a'=none→cap'=0)→(∀ q,a'=some q→0 < size l→w.heap.size≤q.block)→Calls Tryz.prog 38 #[.pointer (some ⟨lb,0,none⟩),.slice a' (size l) cap'] W (DoneAfter W p lb g F limit vz (0,T) (nums++[i+1]) base begun (szs nums fr++[size l])):=fun W a' cap' q1 q2 q3 q4=>by
   have:=hp W a' cap' q1 q2 q3 q4
   simp only [if_pos hro',hT] at this
   exact this
  have hl1:(szs nums fr++[size l])[(szs nums fr++[size l]).length - 1]'(by simp)=0+size l:=by simp
  refine (append_yes h hr hll hl rfl hsz hp' (by simp) (by simp;omega) (i1:=i+1) (by simp) (by omega) (by simp;omega) hl1 (by omega)).mono ?_
  rintro e w' ⟨F1,g1,c1,vz1,hK,⟨_,he,hS⟩|⟨h0,_⟩⟩
  ·refine ⟨T,F1,g1,c1,vz1,by rw [e3,e4];exact he,hK,by rw [e1,e2,e5];exact hS,by rw [e1,e2];exact hLT,hplT,htT,by rw [e1,e3];simp⟩
  ·exact absurd rfl h0
 ·obtain ⟨T,hT,hLT,hplT,htT⟩:=hm.1
  have e1:numsA limit nums fr i l=nums:=if_neg hro
  have e2:frA limit fr i l=bump fr i l:=if_neg hro
  have e3:lastA limit fr i l=i:=if_neg hro
  have e4:atA limit fr i l=(frames (fr i)).length:=if_neg hro
  have e5:=szs_bump (fr:=fr) (l:=l) hL.num.rising hi
  have hro':¬ (0 < (frames (fr i)).length∧limit < (((frames (fr i)).length+size l:Nat):Int)):=hro
  have hp':∀ W a' cap',Below w.heap.size w W→Row W a' (size l) (frm (Rec.body l))→(a'=none→cap'=0)→(∀ q,a'=some q→0 < size l→w.heap.size≤q.block)→Calls Tryz.prog 38 #[.pointer (some ⟨lb,0,none⟩),.slice a' (size l) cap'] W (DoneAfter W p lb g F limit vz (0,T) nums base begun ((szs nums fr).set ((szs nums fr).length - 1) ((frames (fr i)).length+size l))):=fun W a' cap' q1 q2 q3 q4=>by
   have:=hp W a' cap' q1 q2 q3 q4
   simp only [if_neg hro',hT] at this
   exact this
  have hl1:((szs nums fr).set ((szs nums fr).length - 1) ((frames (fr i)).length+size l))[((szs nums fr).set ((szs nums fr).length - 1) ((frames (fr i)).length+size l)).length - 1]'(by simp;omega)=(frames (fr i)).length+size l:=by simp
  refine (append_yes h hr hll hl rfl hsz hp' (by simp;omega) (by simp;omega) (i1:=i) hi (by omega) (by omega) hl1 (by omega)).mono ?_
  rintro e w' ⟨F1,g1,c1,vz1,hK,⟨_,he,hS⟩|⟨h0,_⟩⟩
  ·refine ⟨T,F1,g1,c1,vz1,by rw [e3,e4];exact he,hK,by rw [e1,e2,e5];exact hS,by rw [e1,e2];exact hLT,hplT,htT,by rw [e1,e3];exact hi⟩
  ·exact absurd rfl h0
end
end Go.Proofs.YtbhoknnjilidnaaGreatDoor.Seg
end
section
namespace Go.Proofs.YtbhoknnjilidnaaGreatDoor.Seg
open Go.Proofs.YtbhoknnjilidnaaGreatDoor.Mem
open Go.Proofs.YtbhoknnjilidnaaGreatDoor.Disk (Nm File St Eff Has grow errV used lenOf run)
open Go.ChangeShapes Go.WideShapes Go.ChangeAt Go.RowKit
section
variable {w w1 w2 W W':World} {p lb g g1 g2 c g' c':Nat} {S S1 S2:St} {F F1 F2:Nat→Prop} {limit:Int} {nums nums':List Nat} {base base':Nat} {begun begun':Bool} {zs:List Nat} {vz vz1 vz2:Value}
theorem closure_begin {b1 b3 n:Nat} (h1:w.cell? ⟨b1,0,none⟩=some (.pointer (some ⟨lb,0,none⟩))) (h3:Disk.Blk w b3 67 #[.slice (some ⟨g',0,none⟩) n c',.int .i64 (base':Int),.bool begun']) {Q:Ending→World→Prop}
  (hp:Calls Tryz.prog 33 #[.pointer (some ⟨lb,0,none⟩),manV g' 0 n c' base' begun'] w Q) (hQ:∀ e w',Q e w'→∃ v,e = .returned v) :
  Calls Tryz.prog 32 #[.pointer (some ⟨b1,0,none⟩),.pointer (some ⟨b3,0,none⟩)] w Q:=by
 have m0:w.cell? ⟨b3,0,none⟩=some _:=h3.cell 0
 have m1:w.cell? ⟨b3,1,none⟩=some _:=h3.cell 1
 have m2:w.cell? ⟨b3,2,none⟩=some _:=h3.cell 2
 unfold manV at hp
 clear h3
 go_enter Tryz.func32,Tryz.ntmps32
 go_wp2_with fail
 refine hp.mono ?_
 intro e w' hq
 obtain ⟨v,rfl⟩:=hQ e w' hq
 go_wp2_with fail
 exact hq
def BegAfter (w:World) (p lb:Nat) (F:Nat→Prop) (limit:Int) (nums:List Nat) (base:Nat) (begun:Bool) (zs:List Nat) (g c:Nat) (vz:Value) (nums':List Nat) (base':Nat) (begun':Bool) (g' c':Nat) (r:Int × St) (e:Ending) (w':World):Prop :=
 ∃ F1 vz',Kept w w' lb F F1 vz vz'∧((r.1=0∧e = .returned .nilIface∧SysAt w' p lb r.2 limit nums' base' begun' (zs++[0]) false F1 g' c' vz')∨(r.1≠0∧e = .returned (errV r.1)∧SysAt w' p lb r.2 limit nums base begun zs true F1 g c vz'))
theorem attempt_begin {b1 b3 n:Nat} (h:SysAt w p lb S limit nums base begun zs false F g c vz) (h1:w.cell? ⟨b1,0,none⟩=some (.pointer (some ⟨lb,0,none⟩))) (h3:Disk.Blk w b3 67 #[.slice (some ⟨g',0,none⟩) n c',.int .i64 (base':Int),.bool begun']) {r:Int × St}
  (hp:Calls Tryz.prog 33 #[.pointer (some ⟨lb,0,none⟩),manV g' 0 n c' base' begun'] w (GrowAfter w p lb F limit nums base begun zs g c vz nums' base' begun' g' c' r)) :
  Calls Tryz.prog 31 #[.pointer (some ⟨lb,0,none⟩),.func (.func 32) #[] #[.pointer (some ⟨b1,0,none⟩),.pointer (some ⟨b3,0,none⟩)]] w (BegAfter w p lb F limit nums base begun zs g c vz nums' base' begun' g' c' r):=by
 have k6:w.cell? ⟨lb,6,none⟩=some (.bool false):=h.log.cell 6
 have HC:=Lib.hid (closure_begin h1 h3 hp (fun e w' ⟨_,_,_,hc⟩=>by rcases hc with ⟨_,rfl,_⟩|⟨_,rfl,_⟩ <;> exact ⟨_,rfl⟩))
 clear h h1 h3 hp
 go_enter Tryz.func31,Tryz.ntmps31
 go_wp2_with fail
 refine HC.out.mono ?_
 rintro e w1 ⟨F1,vz1,hK,⟨hr0,rfl,hS⟩|⟨hr0,rfl,hS⟩⟩
 ·have HK:=Lib.hid (And.intro hK (And.intro hr0 hS))
  clear hK hr0 hS HC
  go_wp2_with fail
  go_ret
  exact ⟨F1,vz1,HK.out.1,.inl ⟨HK.out.2.1,rfl,HK.out.2.2⟩⟩
 ·have hv:=errV_bad hr0
  rw [hv]
  have HV:=Lib.hid (And.intro hr0 hv)
  have HK:=Lib.hid (And.intro hK hS)
  have l6:w1.cell? ⟨lb,6,none⟩=some (.bool false):=hS.log.cell 6
  have y6:w1.frozen? ⟨lb,6,none⟩=false:=hS.log.frozen 6
  clear hK hr0 hS HC hv
  go_wp2_with fail
  go_ret
  obtain ⟨q1,q2⟩:=HK.out.2.fail
  have hq:Kept w (w1.setCell ⟨lb,6,none⟩ (.bool true)) lb F F1 vz vz1:=by
   have hk:=HK.out.1
   refine ⟨fun j hj=>?_,hk.but.trans (Disk.but_set w1 lb 6 (.bool true)) (fun i hi ht => .inr (.inl ht)),hk.own⟩
   have hz:=(Disk.but_set w1 lb 6 (.bool true)).size
   rcases hk.sub j hj with h1|h1
   ·exact .inl h1
   ·exact .inr ⟨h1.1,by omega⟩
  exact ⟨F1,vz1,hq,.inr ⟨HV.out.1,by rw [HV.out.2];rfl,q1⟩⟩
theorem begin_log (h:SysAt w p lb S limit nums base begun zs false F g c vz) {i:Nat} (hi:nums.getLast?=some i) (hi1:i+1 < 100) (hnl:nums.length≤900) (hi2:∀ j ∈ nums,j≤i) (hT:Disk.look nT S.files=none) (hz:zs.length≤1000) :
  Calls Tryz.prog 12 #[.pointer (some ⟨lb,0,none⟩)] w (AttAfter w p lb g F limit vz (run (rotA (i+1) (manFile (nums++[i+1]) (i+1) true)) S) (nums++[i+1]) (i+1) true (zs++[0])):=by
 have hlt:=h.lt
 have hb1:=(Below.refl _ w).alloc (Nat.le_refl _) (.cells #[.pointer (some ⟨lb,0,none⟩)] 26)
 have hx1:Disk.Blk (w.alloc (.cells #[.pointer (some ⟨lb,0,none⟩)] 26)) w.heap.size 26 #[.pointer (some ⟨lb,0,none⟩)]:=Disk.Blk.new _ _ _
 have hs1:=h.below hb1
 obtain ⟨W1,hW1⟩:∃ W,W=w.alloc (.cells #[.pointer (some ⟨lb,0,none⟩)] 26):=⟨_,rfl⟩
 have hz1:W1.heap.size=w.heap.size+1:=by rw [hW1];simp
 rw [← hW1] at hb1 hx1 hs1
 have c2:=withNext_any hs1.nms hi (by omega) (by omega) base begun
 unfold manV at c2
 have k2:W1.cell? ⟨lb,2,none⟩=some (.slice (some ⟨g,0,none⟩) nums.length c):=hs1.log.cell 2
 have k3:W1.cell? ⟨lb,3,none⟩=some (.int .i64 (base:Int)):=hs1.log.cell 3
 have k4:W1.cell? ⟨lb,4,none⟩=some (.bool begun):=hs1.log.cell 4
 rw [hW1] at k2 k3 k4
 have H1:=Lib.hid (And.intro hs1 (And.intro hx1 (And.intro hb1 hz1)))
 have H0:=Lib.hid (And.intro h (And.intro hi (And.intro hi2 (And.intro hT hlt))))
 have HW:=Lib.hid hW1
 rw [hW1] at c2
 clear h hlt hb1 hx1 hs1 hz1 hi hi2 hT hW1
 go_enter Tryz.func12,Tryz.ntmps12
 go_wp2_with fail
 refine c2.mono ?_
 clear c2
 rintro e w2 ⟨v,rfl,ho,hb2⟩
 rw [← HW.out] at ho hb2
 have hnl1:(nums++[i+1]).length=nums.length+1:=by simp
 obtain ⟨g',c',rfl,-,hg1,hg2,hnc,hcm,hcells⟩:=nms_of_own ho (by omega) (by omega)
 have hm2:Nms w2 g' 0 c' (nums++[i+1]):=⟨hg2,by omega,hcm,hcells⟩
 obtain ⟨L,hL⟩:∃ L,L=i+1:=⟨_,rfl⟩
 obtain ⟨ns,hns⟩:∃ ns,ns=nums++[i+1]:=⟨_,rfl⟩
 obtain ⟨nl,hnl2⟩:∃ nl,nl=nums.length+1:=⟨_,rfl⟩
 have hlast:ns.getLast?=some L:=by rw [hns,hL];simp
 rw [← hns] at hm2 hnl1
 rw [← hnl2] at hnl1
 rw [← hnl2]
 have hb3:=(Below.refl _ w2).alloc (Nat.le_refl _) (.cells #[.slice (some ⟨g',0,none⟩) nl c',.int .i64 (base:Int),.bool begun] 67)
 have hx3:Disk.Blk (w2.alloc (.cells #[.slice (some ⟨g',0,none⟩) nl c',.int .i64 (base:Int),.bool begun] 67)) w2.heap.size 67 #[.slice (some ⟨g',0,none⟩) nl c',.int .i64 (base:Int),.bool begun]:=Disk.Blk.new _ _ _
 have c3:=last_any (hm2.below hb3) hlast base begun
 unfold manV at c3
 rw [hnl1] at c3
 have HN:=Lib.hid (And.intro hL (And.intro hns (And.intro hnl2 (And.intro hnl1 hlast))))
 have H2:=Lib.hid (And.intro (H1.out.1.below hb2) (And.intro (H1.out.2.1.but (But.of_new hb2 (S:=fun _=>False)) (fun e=>e)) (And.intro hm2 (And.intro hg1 (H1.out.2.2.1.trans (hb2.mono H1.out.2.2.1.size))))))
 have H3:=Lib.hid (And.intro hx3 hb3)
 clear ho hb2 hg1 hg2 hnc hcm hcells hm2 hns hL hnl2 hnl1 hlast hb3 hx3
 go_wp2_with fail
 refine c3.mono ?_
 clear c3
 rintro e w4 ⟨rfl,hb4⟩
 have hb24:=H3.out.2.trans (hb4.mono H3.out.2.size)
 have hx4:=H3.out.1.but (But.of_new hb4 (S:=fun _=>False)) (fun e=>e)
 obtain ⟨b3,hb3⟩:∃ b3,b3=w2.heap.size:=⟨_,rfl⟩
 rw [← hb3] at hx4 ⊢
 have hx5:=(hx4.set_ 1 (.int .i64 (L:Int))).set_ 2 (.bool true)
 have y1:w4.frozen? ⟨b3,1,none⟩=false:=hx4.frozen 1
 have y2:(w4.setCell ⟨b3,1,none⟩ (.int .i64 (L:Int))).frozen? ⟨b3,2,none⟩=false:=(hx4.set_ 1 (.int .i64 (L:Int))).frozen 2
 have m0:w4.cell? ⟨b3,0,none⟩=some _:=hx4.cell 0
 have m1:w4.cell? ⟨b3,1,none⟩=some _:=hx4.cell 1
 have m2:w4.cell? ⟨b3,2,none⟩=some _:=hx4.cell 2
 have hbb:=(Disk.but_set w4 b3 1 (.int .i64 (L:Int))).trans' (Disk.but_set _ b3 2 (.bool true))
 obtain ⟨W5,hW5⟩:∃ W5,W5=(w4.setCell ⟨b3,1,none⟩ (.int .i64 (L:Int))).setCell ⟨b3,2,none⟩ (.bool true):=⟨_,rfl⟩
 rw [← hW5] at hx5 hbb
 have hbox:=((H2.out.2.1.but (But.of_new hb24 (S:=fun _=>False)) (fun e=>e)).but hbb (fun e=>by have h1:=H2.out.2.1.lt;have h2:w.heap.size=b3:=e;omega))
 have hbx0:W5.cell? ⟨w.heap.size,0,none⟩=some (.pointer (some ⟨lb,0,none⟩)):=hbox.cell 0
 have hb5:Below w.heap.size w W5:=H2.out.2.2.2.2.trans ((hb24.mono H2.out.2.2.2.2.size).trans (hbb.below (by have h1:=hb24.size;have h2:=H2.out.2.2.2.2.size;omega) (fun k hk=>by have h2:=H2.out.2.2.2.2.size;have h3:k=b3:=hk;omega)))
 have hS5:=H0.out.1.below hb5
 have hm5:Nms W5 g' 0 c' ns:=(H2.out.2.2.1.below hb24).but hbb (fun e=>by have h1:=H2.out.2.2.1.lt;have h3:g'=b3:=e;omega)
 rw [hW5] at hbx0
 have hg9:w.heap.size < g':=by have h1:=H2.out.2.2.2.1;have h2:=H1.out.2.2.2;omega
 have hjs:∀ j ∈ ns,j < 4294967296:=by
  intro j hj
  rw [HN.out.2.1] at hj
  rcases List.mem_append.1 hj with h1|h1
  ·have:=H0.out.2.2.1 j h1;omega
  ·have:=List.mem_singleton.1 h1;omega
 have cG:=grow_log hS5 hm5 (begun':=true) (base':=L) (fun hF=>by have:=H0.out.1.dsk.lt _ hF;omega) (fun e=>by have:=H0.out.1.log.lt;omega) (fun e=>by have h1:=H0.out.2.2.2.2 g' (.inr (.inr (.inr e)));omega) HN.out.2.2.2.2 (by have:=HN.out.1;omega) (by have:=HN.out.2.2.1;have:=HN.out.2.2.2.1;omega) hjs (by have:=HN.out.1;omega) H0.out.2.2.2.1 hz
 rw [HN.out.2.2.2.1] at cG
 have cA:=attempt_begin hS5 (by rw [hW5];exact hbx0) hx5 cG
 have H5:=Lib.hid (And.intro hb5 (And.intro hg9 (H0.out.1.lt)))
 have HW5:=Lib.hid hW5
 rw [hW5] at cA
 clear hb4 hb24 hx4 hx5 hbb hbox hb5 hS5 hm5 hg9 cG hW5 hb3
 go_wp2_with fail
 refine cA.mono ?_
 clear cA
 rintro e w6 ⟨F1,vz1,hK,hc⟩
 rw [← HW5.out] at hK
 have hk:=(KeptG.below (g:=g) (lb:=lb) (vz:=vz) H0.out.1.dsk.lt H5.out.1).trans (KeptG.of hK)
 rcases hc with ⟨hr,rfl,hS⟩|⟨hr,rfl,hS⟩
 ·have HE:=Lib.hid (show KeptG w w6 lb g F F1 vz g' vz1∧(run (rotA L (manFile ns L true)) S).1=0∧SysAt w6 p lb (run (rotA L (manFile ns L true)) S).2 limit ns L true (zs++[0]) false F1 g' c' vz1 from ⟨⟨hk.sub,hk.but,hk.own,.inr (by have:=H5.out.2.1;omega)⟩,hr,hS⟩)
  clear hK hr hS hk
  rw [HN.out.1,HN.out.2.1] at HE
  go_wp2_with fail
  go_ret
  exact ⟨F1,g',c',vz1,HE.out.1,.inl ⟨HE.out.2.1,rfl,HE.out.2.2⟩⟩
 ·have hv:=errV_bad hr
  have HE:=Lib.hid (And.intro hk (And.intro hr (And.intro hv hS)))
  rw [hv]
  rw [HN.out.1,HN.out.2.1] at HE
  clear hK hr hS hk hv
  go_wp2_with fail
  go_ret
  exact ⟨F1,g,c,vz1,HE.out.1,.inr ⟨HE.out.2.1,by rw [HE.out.2.2.1,← HN.out.2.1,← HN.out.1];rfl,nums,base,begun,zs,HE.out.2.2.2⟩⟩
end
end Go.Proofs.YtbhoknnjilidnaaGreatDoor.Seg
end

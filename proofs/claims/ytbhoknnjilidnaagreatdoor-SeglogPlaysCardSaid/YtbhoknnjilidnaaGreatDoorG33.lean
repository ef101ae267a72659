/- Contract: a log's segments are scanned, the last one cut where it isn't whole. (Made by gen-scan.py.) -/
import Derived.Test.YtbhoknnjilidnaaGreatDoorG32
set_option linter.unusedSimpArgs false
set_option linter.unusedVariables false
set_option maxHeartbeats 16000000
set_option maxRecDepth 100000
namespace Go.Proofs.YtbhoknnjilidnaaGreatDoor.Seg
open Go.Proofs.YtbhoknnjilidnaaGreatDoor.Mem
open Go.Proofs.YtbhoknnjilidnaaGreatDoor.Disk (Nm File St Eff Has grow errV used lenOf run)
open Go.Proofs.YtbhoknnjilidnaaGreatDoor.Rec (Rcd Recs Is)
open Go.Proofs.YtbhoknnjilidnaaGreatDoor.Torn (Gp Pc gcells gpl gpl_snoc gpl_get Pcs scan total scan_new piece_info)
open Go.ChangeShapes Go.WideShapes Go.ChangeAt Go.RowKit
def logC (p:Nat) (limit:Int) (g n c base:Nat) (begun:Bool) (vz:Value) (failed:Bool):Array Value := #[.pointer (some ⟨p,0,none⟩),.int .i64 limit,.slice (some ⟨g,0,none⟩) n c,.int .i64 (base:Int),.bool begun,vz,.bool failed]
def totOf (f:File):Nat:=total (scan 0 f.bytes)
def piecesIn (fl:Nat→File) (ns:List Nat):List Pc:=ns.flatMap fun i=>scan 0 (fl i).bytes
def spotsOf (i:Nat) (ps:List Pc):List Sp:=ps.map fun p=>⟨i,p.at_,p.len⟩
def spotsIn (fl:Nat→File) (ns:List Nat):List Sp:=ns.flatMap fun i=>spotsOf i (scan 0 (fl i).bytes)
def sizesIn (fl:Nat→File) (ns:List Nat):List Nat:=ns.map fun i=>totOf (fl i)
theorem own_slice {w:World} {base:Nat} {e:TypeId} {size n:Nat} {v:Value} {xs:List Value} (h:w.ownsRow base e size v (n+1) xs):∃ g c,v = .slice (some ⟨g,0,none⟩) (n+1) c:=by
 rcases h.2 with ⟨_,h⟩|⟨g,cap,cur,hv,_⟩
 ·omega
 ·exact ⟨g,cap,hv⟩
theorem own_any {w:World} {base:Nat} {e:TypeId} {size n:Nat} {v:Value} {xs:List Value} (h:w.ownsRow base e size v n xs):∃ a m c,v = .slice a m c:=by
 rcases h.2 with ⟨h,_⟩|⟨g,cap,cur,hv,_⟩
 ·exact ⟨_,_,_,h⟩
 ·exact ⟨_,_,_,hv⟩
theorem Dsk.but_ {w w1:World} {p:Nat} {S:St} {F T:Nat→Prop} (h:Dsk w p S F) (hb:But T w w1) (hT:∀ k,F k→¬ T k):Dsk w1 p S F:=⟨h.1.but hb hT,h.2⟩
section
variable {w:World} {p lb g c:Nat} {S:St} {F:Nat→Prop} {limit:Int} {nums:List Nat} {base:Nat} {begun:Bool} {fl:Nat→File}
structure OutR (w:World) (p lb g c:Nat) (F:Nat→Prop) (limit:Int) (nums:List Nat) (base:Nat) (begun:Bool) (fl:Nat→File) (S1:St) (F1:Nat→Prop) (vp vs vz:Value) (gs:List Gp) (ss:List Sp) (zs:List Nat) (k:Nat) (wr:World):Prop where
 dsk:Dsk wr p S1 F1
 sub:∀ j,F1 j→grow F w wr j
 but:But (fun j=>F j∨j=lb) w wr
 rows:ScR w wr F1 vp vs vz gs ss zs
 log:Disk.Blk wr lb 72 (logC p limit g nums.length c base begun vz false)
 flb:¬ F1 lb
 fg:¬ F1 g
 pcs:gs.map (·.p)=piecesIn fl (nums.take k)
 spo:ss=spotsIn fl (nums.take k)
 siz:zs=sizesIn fl (nums.take k)
def ScanAfter (w:World) (p lb g c:Nat) (F:Nat→Prop) (limit:Int) (nums:List Nat) (base:Nat) (begun:Bool) (fl:Nat→File) (r:Int × St) (e:Ending) (w':World):Prop :=
 (r.1=0∧∃ F1 ap cp aq cs vz gs ss zs,e = .returned (.tuple #[.slice ap gs.length cp,.slice aq ss.length cs,.nilIface])∧OutR w p lb g c F limit nums base begun fl r.2 F1 (.slice ap gs.length cp) (.slice aq ss.length cs) vz gs ss zs nums.length w') ∨
 (r.1≠0∧(∃ F1,Dsk w' p r.2 F1∧(∀ j,F1 j→grow F w w' j)∧But (fun j=>F j∨j=lb) w w')∧e = .returned (.tuple #[.slice none 0 0,.slice none 0 0,errV r.1]))
theorem OutR.below {wr w1:World} {S1:St} {F1:Nat→Prop} {vp vs vz:Value} {gs:List Gp} {ss:List Sp} {zs:List Nat} {k:Nat} (h:OutR w p lb g c F limit nums base begun fl S1 F1 vp vs vz gs ss zs k wr) (hb:Below wr.heap.size wr w1):OutR w p lb g c F limit nums base begun fl S1 F1 vp vs vz gs ss zs k w1 where
 dsk:=h.dsk.below hb
 sub:=fun j hj=>by
  rcases h.sub j hj with h1|h1
  ·exact .inl h1
  ·exact .inr ⟨h1.1,Nat.lt_of_lt_of_le h1.2 hb.size⟩
 but:=h.but.trans (But.of_new hb (S:=fun _=>False)) (fun _ _ e=>e.elim)
 rows:=h.rows.below hb
 log:=h.log.but (But.of_below hb) (by have:=h.log.lt;omega)
 flb:=h.flb
 fg:=h.fg
 pcs:=h.pcs
 spo:=h.spo
 siz:=h.siz
theorem pieces_len {ns:List Nat} (h:∀ i ∈ ns,(fl i).bytes.length≤1000000):(piecesIn fl ns).length≤ns.length * 1000000∧(spotsIn fl ns).length=(piecesIn fl ns).length:=by
 induction ns with
 | nil=>exact ⟨Nat.zero_le _,rfl⟩
 | cons i r ih =>
  obtain ⟨h1,h2⟩:=ih (fun k hk=>h k (List.mem_cons_of_mem _ hk))
  have h3:=(Torn.scan_le 0 (fl i).bytes).2
  have h4:=h i List.mem_cons_self
  have e1:piecesIn fl (i :: r)=scan 0 (fl i).bytes++piecesIn fl r:=rfl
  have e2:spotsIn fl (i :: r)=spotsOf i (scan 0 (fl i).bytes)++spotsIn fl r:=rfl
  rw [e1,e2,List.length_append,List.length_append,h2,List.length_cons]
  refine ⟨by omega,?_⟩
  unfold spotsOf
  rw [List.length_map]
theorem idx_last {nums:List Nat} (hr:nums.Pairwise (· < ·)) {L:Nat} (hL:nums.getLast?=some L) {k:Nat} (hk:k < nums.length):nums[k]=L ↔ k+1=nums.length:=by
 have hl:nums[nums.length - 1]'(by omega)=L:=by
  rw [List.getLast?_eq_getElem?,List.getElem?_eq_getElem (by omega)] at hL
  injection hL
 constructor
 ·intro e
  rcases Nat.lt_or_ge (k+1) nums.length with h|h
  ·have:=List.pairwise_iff_getElem.1 hr k (nums.length - 1) hk (by omega) (by omega)
   rw [hl,e] at this
   omega
  ·omega
 ·intro e
  have:nums.length - 1=k:=by omega
  subst this
  exact hl
theorem piecesIn_succ {k:Nat} (h:k < nums.length):piecesIn fl (nums.take (k+1))=piecesIn fl (nums.take k)++scan 0 (fl nums[k]).bytes:=by
 unfold piecesIn
 rw [List.take_succ_eq_append_getElem h,List.flatMap_append];simp
theorem spotsIn_succ {k:Nat} (h:k < nums.length):spotsIn fl (nums.take (k+1))=spotsIn fl (nums.take k)++spotsOf nums[k] (scan 0 (fl nums[k]).bytes):=by
 unfold spotsIn
 rw [List.take_succ_eq_append_getElem h,List.flatMap_append];simp
theorem sizesIn_succ {k:Nat} (h:k < nums.length):sizesIn fl (nums.take (k+1))=sizesIn fl (nums.take k)++[totOf (fl nums[k])]:=by
 unfold sizesIn
 rw [List.take_succ_eq_append_getElem h,List.map_append];simp
theorem spots_snoc {i:Nat} {gs2:List Gp} {j:Nat} (h:j < gs2.length):spotsOf i ((gs2.take (j+1)).map (·.p))=spotsOf i ((gs2.take j).map (·.p))++[⟨i,gs2[j].p.at_,gs2[j].p.len⟩]:=by
 unfold spotsOf
 rw [List.take_succ_eq_append_getElem h,List.map_append,List.map_append];simp
theorem scan_log (h:Dsk w p S F) (hd:S.down=false) (hlb:Disk.Blk w lb 72 (logC p limit g nums.length c base begun (.slice none 0 0) false)) (hm:Nms w g 0 c nums) (hlF:¬ F lb) (hgF:¬ F g) (hne:lb≠g) (hcan:∀ i ∈ nums,i < 100) (hnl:nums.length≤1000)
  {L:Nat} (hL:nums.getLast?=some L) (hri:nums.Pairwise (· < ·)) (hfl:∀ i ∈ nums,Disk.look (seg i) S.files=some (fl i)∧Bytes (fl i).bytes∧(i≠L→totOf (fl i)=(fl i).bytes.length)) :
  Calls Tryz.prog 27 #[.pointer (some ⟨lb,0,none⟩)] w (ScanAfter w p lb g c F limit nums base begun fl (run (opC (decide (totOf (fl L) < (fl L).bytes.length)) L (totOf (fl L))) S)):=by
 obtain ⟨i0,hi0,hz0,hz1,hz2⟩:=info_parts piece_info
 obtain ⟨i1,hi1,hy0,hy1,hy2⟩:=info_parts spot_info
 obtain ⟨i2,hi2,hx0,hx1,hx2⟩:=info_parts Torn.int_info
 obtain ⟨R,hRR⟩:∃ R,R=run (opC (decide (totOf (fl L) < (fl L).bytes.length)) L (totOf (fl L))) S:=⟨_,rfl⟩
 rw [← hRR]
 have HRR:=Lib.hid hRR
 have hO0:OutR w p lb g c F limit nums base begun fl S F (.slice none 0 0) (.slice none 0 0) (.slice none 0 0) [] [] [] 0 w:=⟨h,fun j hj => .inl hj,But.refl _ w,⟨World.ownsRow_nil _ _ _ _,fun _ hg=>absurd hg List.not_mem_nil,World.ownsRow_nil _ _ _ _,World.ownsRow_nil _ _ _ _,(fun k hk=>by rcases hk with hk|hk|hk <;> cases hk),h.lt,Nat.le_refl _⟩,hlb,hlF,hgF,rfl,rfl,rfl⟩
 have HO0:=Lib.hid hO0
 have HD:=Lib.hid (And.intro hd h.lt)
 have HM:=Lib.hid hm
 have HFL:=Lib.hid hfl
 have HC:=Lib.hid hcan
 have HL:=Lib.hid (And.intro hL hri)
 have HF:=Lib.hid (And.intro hlF (And.intro hgF hne))
 have HLB:=Lib.hid hlb
 have HUS:=Lib.hid (show ∀ i f,Disk.look (seg i) S.files=some f→f.bytes.length≤1000000 from fun i f hl=>by
  have h1:=Disk.total_le_of (f:=fun e:File=>e.bytes.length) (Disk.look_mem hl)
  exact Nat.le_trans h1 h.2.used)
 have c2:w.cell? ⟨lb,2,none⟩=some (.slice (some ⟨g,0,none⟩) nums.length c):=hlb.cell 2
 clear h hd hlb hm hlF hgF hne hcan hL hri hfl hO0 hRR
 go_enter Tryz.func27,Tryz.ntmps27
 go_wp2_with fail
 go_loopw [5,6,22] (fun v5 v6 i wr=>∃ (k:Nat) (ap:Option Addr) (np cp:Nat) (aq:Option Addr) (ns cs:Nat) (S1:St) (F1:Nat→Prop) (vz:Value) (gs:List Gp) (ss:List Sp) (zs:List Nat),k≤nums.length∧i = .int .i64 (k:Int)∧v5 = .slice ap np cp∧v6 = .slice aq ns cs∧np=gs.length∧ns=ss.length∧OutR w p lb g c F limit nums base begun fl S1 F1 (.slice ap np cp) (.slice aq ns cs) vz gs ss zs k wr∧(k < nums.length→S1=S)∧(k=nums.length→R.1=0∧S1=R.2)) (fun _ _ i _=>nums.length - (intOf i).toNat)
 case atStart=>exact ⟨0,none,0,0,none,0,0,S,F,_,[],[],[],Nat.zero_le _,rfl,rfl,rfl,rfl,rfl,HO0.out,fun _=>rfl,fun h0=>by have:=HL.out.1;rw [List.eq_nil_of_length_eq_zero h0.symm] at this;cases this⟩
 case round =>
  obtain ⟨k,ap,np,cp,aq,ns,cs,S1,F1,vz,gs,ss,zs,hk,rfl,rfl,rfl,hnp,hns,hO,hS1,hSn⟩:=hrel
  by_cases hlt:k < nums.length
  ·obtain rfl:=hS1 hlt
   have HO:=Lib.hid hO
   have HNP:=Lib.hid (And.intro hnp hns)
   obtain ⟨hlk,hby,hto⟩:=HFL.out nums[k] (List.getElem_mem hlt)
   have hi100:=HC.out nums[k] (List.getElem_mem hlt)
   have hcell:wr.cell? ⟨g,k,none⟩=some (.int .i64 (nums[k]:Int)):=by
    have h1:=(HM.out.but hO.but (fun hg=>by rcases hg with hg|hg;exact HF.out.2.1 hg;exact HF.out.2.2 hg.symm)).cell k hlt
    rw [Nat.zero_add] at h1
    exact h1
   obtain ⟨i,hi⟩:∃ i,i=nums[k]:=⟨_,rfl⟩
   rw [← hi] at hlk hby hto hi100 hcell
   have HI:=Lib.hid hi
   have HFI:=Lib.hid (And.intro hlk (And.intro hby hto))
   clear hS1 hSn hO hnp hns hlk hby hto hi
   go_wp2_with fail
   refine Late.region_goes (fun W=>Disk.Blk W lb 72 (logC p limit g nums.length c base begun vz false)) (fun _=>false) (by kernel_rfl) ?_ (fun hH=>?_)
   ·exact (HO.out.below ((Below.refl _ wr).drew)).log
   refine Late.tk 0 ?_ ?_ hH ?_;rotate_left 2
   refine Late.tk 1 ?_ ?_ hH ?_;rotate_left 2
   refine Late.tk 2 ?_ ?_ hH ?_;rotate_left 2
   refine Late.tk 3 ?_ ?_ hH ?_;rotate_left 2
   refine Late.tk 4 ?_ ?_ hH ?_;rotate_left 2
   rotate_left
   any_goals (intro wy hSw;(try dsimp only at hSw);have k0:wy.cell? ⟨lb,0,none⟩=some (.pointer (some ⟨p,0,none⟩)):=hSw.cell 0;go_simp;try (with_reducible rfl))
   try simp only [Act.put,List.setIfInBounds_toArray,List.set_cons_zero,List.set_cons_succ]
   refine Late.Goes.one (i:=5) (by kernel_rfl) (by simp only [List.getElem?_toArray,List.getElem?_cons_succ,List.getElem?_cons_zero];rfl) (fun K hK=>?_)
   clear hH
   go_simp
   go_at_call 44
   refine (segmentFile_any i (by omega) (.inl hi100)).mono ?_
   rintro e w1 ⟨rfl,hb1⟩
   have HO1:=Lib.hid ((HO.out.below ((Below.refl _ wr).drew)).below hb1)
   clear hb1
   refine hK.out _ _ ?_ (fun hH=>?_)
   ·exact fun _=>HO1.out.log
   clear hK K
   have hH:=hH rfl
   try simp only [Act.put,List.setIfInBounds_toArray,List.set_cons_zero,List.set_cons_succ]
   refine Late.Goes.one (i:=6) (by kernel_rfl) (by simp only [List.getElem?_toArray,List.getElem?_cons_succ,List.getElem?_cons_zero];rfl) (fun K hK=>?_)
   clear hH
   go_simp
   go_at_call 55
   refine (readFile_yes HO1.out.dsk HD.out.1 (segB i) (segB_size i (by omega)) HFI.out.1).mono ?_
   rintro e w2 ⟨a,cb,rfl,hin,hb2⟩
   have HO2:=Lib.hid (HO1.out.below hb2)
   have HIN0:=Lib.hid hin
   clear hb2 hin
   refine hK.out _ _ ?_ (fun hH=>?_)
   ·exact fun _=>HO2.out.log
   clear hK K
   have hH:=hH rfl
   try simp only [Act.put,List.setIfInBounds_toArray,List.set_cons_zero,List.set_cons_succ]
   refine Late.tk 7 ?_ ?_ hH ?_;rotate_left 2
   refine Late.tk 8 ?_ ?_ hH ?_;rotate_left 2
   refine Late.tk 9 ?_ ?_ hH ?_;rotate_left 2
   refine Late.tk 10 ?_ ?_ hH ?_;rotate_left 2
   refine Late.tk 11 ?_ ?_ hH ?_;rotate_left 2
   rotate_left
   any_goals (intro wy hSw;(try dsimp only at hSw);have k0:wy.cell? ⟨lb,0,none⟩=some (.pointer (some ⟨p,0,none⟩)):=hSw.cell 0;go_simp;try (with_reducible rfl))
   try simp only [Act.put,List.setIfInBounds_toArray,List.set_cons_zero,List.set_cons_succ]
   refine Late.Goes.done (by kernel_rfl) ?_ _
   have hus:=HUS.out i (fl i) HFI.out.1
   have c3:=scan_new a (fl i).bytes.length cb (fl i).bytes w2 HIN0.out hus
   obtain ⟨M,hM⟩:∃ M,M=(fl i).bytes.length:=⟨_,rfl⟩
   obtain ⟨N,hN⟩:∃ N,N=totOf (fl i):=⟨_,rfl⟩
   have c3:Calls Tryz.prog 45 #[.slice a M cb] w2 fun e w'=>Below w2.heap.size w2 w'∧∃ (gs:List Gp) (a:Option Addr) (cap:Nat),gs.map (·.p)=scan 0 (fl i).bytes∧e = .returned (.tuple #[.slice a gs.length cap,.int .i64 ((N:Nat):Int)])∧Pcs w' a gs∧(∀ x,a=some x→w2.heap.size≤x.block)∧∀ g ∈ gs,∀ x,g.a=some x→w2.heap.size≤x.block∧x.block < w'.heap.size:=by rw [hM,hN];exact c3
   rw [← hM] at hus
   have HMN:=Lib.hid (And.intro hM hN)
   clear hcell
   go_wp2_with fail
   rw [← hM]
   clear hM hN
   refine c3.mono ?_
   rintro e w3 ⟨hb3,gs2,a2,cp2,hgp,rfl,hpc,hna,hng⟩
   have hO3:=HO2.out.below hb3
   have hin3:InR w w3 F1 (.slice ap np cp) (.slice aq ns cs) vz gs ss zs a2 gs2:=by
    have hw2:=HO2.out.rows.size
    have haw:∀ x:Nat,w2.heap.size≤x→x < w3.heap.size→Away w w3 F1 (.slice ap np cp) (.slice aq ns cs) vz x:=fun x h1 h2=>⟨by omega,h2,fun hF=>by have:=HO2.out.rows.lt x hF;omega,fun e=>by have:=(HO2.out.rows.pieces.lt x e).2;omega,fun e=>by have:=(HO2.out.rows.spots.lt x e).2;omega,fun e=>by have:=(HO2.out.rows.sizes.lt x e).2;omega⟩
    refine ⟨hO3.rows,hpc,fun h0 x hx=>?_,fun g hg=>⟨hpc.1 g hg,fun x hx=>haw _ (hng g hg x hx).1 (hng g hg x hx).2⟩⟩
    obtain ⟨b,off,hab,hlt,_⟩:=hpc.2 h0
    have hxe:x=⟨b,off,none⟩:=by rw [hab] at hx;injection hx with hx;exact hx.symm
    exact haw _ (hna x hx) (by rw [hxe];exact hlt)
   have HIN3:=Lib.hid hin3
   have HO3:=Lib.hid hO3
   have HGP:=Lib.hid hgp
   have hlens:gs.length≤999000000∧ss.length≤999000000∧gs2.length≤1000000:=by
    have h1:=pieces_len (fl:=fl) (ns:=nums.take k) (fun m hm=>HUS.out m _ (HFL.out m (List.mem_of_mem_take hm)).1)
    rw [List.length_take] at h1
    have h2:=congrArg List.length hO3.pcs
    rw [List.length_map] at h2
    have h3:=congrArg List.length hO3.spo
    have h4:=congrArg List.length hgp
    rw [List.length_map] at h4
    have h5:=(Torn.scan_le 0 (fl i).bytes).2
    have h6:=HMN.out.1
    have h7:=HO0.out.rows.size
    omega
   obtain ⟨hl1,hl2,hl3⟩:=hlens
   clear c3 hb3 hgp hpc hna hng hO3 hin3
   by_cases htn:N < M
   ·have hiL:i=L:=by
     rcases Nat.lt_or_ge N M with h1|h1
     ·by_cases h2:i=L
      ·exact h2
      ·have:=HFI.out.2.2 h2
       rw [← HMN.out.1,← HMN.out.2] at this
       omega
     ·omega
    have hkn1:k+1=nums.length:=(idx_last HL.out.2 HL.out.1 hlt).1 (by rw [← HI.out];exact hiL)
    have hrr:R=run [.short (seg i) N,.syn (seg i)] S1:=by
     rw [HRR.out,← hiL,← HMN.out.1,← HMN.out.2,decide_eq_true htn];rfl
    have k2:w3.cell? ⟨lb,2,none⟩=some (.slice (some ⟨g,0,none⟩) nums.length c):=HO3.out.log.cell 2
    have k3:w3.cell? ⟨lb,3,none⟩=some (.int .i64 (base:Int)):=HO3.out.log.cell 3
    have k4:w3.cell? ⟨lb,4,none⟩=some (.bool begun):=HO3.out.log.cell 4
    have hnm3:Nms w3 g 0 c nums:=HM.out.but HO3.out.but (fun hg=>by rcases hg with hg|hg;exact HF.out.2.1 hg;exact HF.out.2.2 hg.symm)
    have c4:=last_any hnm3 (i:=i) (by rw [hiL];exact HL.out.1) base begun
    unfold manV at c4
    have HRS:=Lib.hid (And.intro hrr (And.intro hkn1 hiL))
    clear hnm3 hrr hkn1 hiL
    go_wp2_with fail
    refine c4.mono ?_
    rintro e w4 ⟨rfl,hb4⟩
    have HO4:=Lib.hid (HO3.out.below hb4)
    have HIN4:=Lib.hid (HIN3.out.below hb4)
    clear c4 hb4 k2 k3 k4
    go_wp2_with fail
    refine Late.region_goes (fun W=>Disk.Blk W lb 72 (logC p limit g nums.length c base begun vz false)) (fun _=>false) (by kernel_rfl) ?_ (fun hH=>?_)
    ·exact (HO4.out.below ((Below.refl _ w4).drew)).log
    refine Late.tk 0 ?_ ?_ hH ?_;rotate_left 2
    refine Late.tk 1 ?_ ?_ hH ?_;rotate_left 2
    refine Late.tk 2 ?_ ?_ hH ?_;rotate_left 2
    refine Late.tk 3 ?_ ?_ hH ?_;rotate_left 2
    refine Late.tk 4 ?_ ?_ hH ?_;rotate_left 2
    refine Late.tk 6 ?_ ?_ hH ?_;rotate_left 2
    rotate_left
    any_goals (intro wy hSw;(try dsimp only at hSw);have k0:wy.cell? ⟨lb,0,none⟩=some (.pointer (some ⟨p,0,none⟩)):=hSw.cell 0;go_simp;try (with_reducible rfl))
    try simp only [Act.put,List.setIfInBounds_toArray,List.set_cons_zero,List.set_cons_succ]
    refine Late.Goes.one (i:=5) (by kernel_rfl) (by simp only [List.getElem?_toArray,List.getElem?_cons_succ,List.getElem?_cons_zero];rfl) (fun K hK=>?_)
    clear hH
    go_simp
    go_at_call 44
    refine (segmentFile_any i (by omega) (.inl hi100)).mono ?_
    rintro e w5 ⟨rfl,hb5⟩
    have HO5:=Lib.hid ((HO4.out.below ((Below.refl _ w4).drew)).below hb5)
    have HIN5:=Lib.hid ((HIN4.out.below ((Below.refl _ w4).drew)).below hb5)
    clear hb5
    refine hK.out _ _ ?_ (fun hH=>?_)
    ·exact fun _=>HO5.out.log
    clear hK K
    have hH:=hH rfl
    try simp only [Act.put,List.setIfInBounds_toArray,List.set_cons_zero,List.set_cons_succ]
    have c6:=cutSynced_any HO5.out.dsk (segB i) (segB_size i (by omega)) N
    rw [segB_nm,← HRS.out.1] at c6
    by_cases hr0:R.1=0
    ·have HR0:=Lib.hid hr0
     unfold After at c6
     rw [errV_ok hr0] at c6
     clear hr0
     refine Late.Goes.one (i:=7) (by kernel_rfl) (by simp only [List.getElem?_toArray,List.getElem?_cons_succ,List.getElem?_cons_zero];rfl) (fun K hK=>?_)
     clear hH
     go_simp
     go_at_call 56
     refine c6.mono ?_
     rintro e w6 ⟨rfl,hN6⟩
     have hlog6:=HO5.out.log.but hN6.2 HO5.out.flb
     have ho6:OutR w p lb g c F limit nums base begun fl R.2 (grow F1 w5 w6) (.slice ap np cp) (.slice aq ns cs) vz gs ss zs k w6:=by
      refine ⟨hN6.1,fun b hb=>?_,HO5.out.but.trans hN6.2 (fun b hb hF=>?_),HO5.out.rows.disk hN6.2,hlog6,not_grow HO5.out.flb HO5.out.log.lt,not_grow HO5.out.fg (by have:=HM.out.lt;have:=HO5.out.rows.size;omega),HO5.out.pcs,HO5.out.spo,HO5.out.siz⟩
      ·rcases hb with hb|hb
       ·rcases HO5.out.sub b hb with h1|h1
        ·exact .inl h1
        ·exact .inr ⟨h1.1,Nat.lt_of_lt_of_le h1.2 hN6.size⟩
       ·exact .inr ⟨Nat.le_trans HO5.out.rows.size hb.1,hb.2⟩
      ·rcases HO5.out.sub b hF with h1|h1
       ·exact .inl h1
       ·omega
     have HO6:=Lib.hid ho6
     have HIN6:=Lib.hid (HIN5.out.disk hN6.2)
     obtain ⟨F6,hF6⟩:∃ F6,F6=grow F1 w5 w6:=⟨_,rfl⟩
     rw [← hF6] at HO6 HIN6
     clear c6 hN6 hlog6 ho6 hF6
     refine hK.out _ _ ?_ (fun hH=>?_)
     ·exact fun _=>HO6.out.log
     clear hK K
     have hH:=hH rfl
     try simp only [Act.put,List.setIfInBounds_toArray,List.set_cons_zero,List.set_cons_succ]
     refine Late.tk 8 ?_ ?_ hH ?_;rotate_left 2
     rotate_left
     any_goals (intro wy hSw;(try dsimp only at hSw);have k0:wy.cell? ⟨lb,0,none⟩=some (.pointer (some ⟨p,0,none⟩)):=hSw.cell 0;go_simp;try (with_reducible rfl))
     try simp only [Act.put,List.setIfInBounds_toArray,List.set_cons_zero,List.set_cons_succ]
     refine Late.Goes.done (by kernel_rfl) ?_ _
     obtain ⟨wo,hwo⟩:∃ wo:World,wo=w6:=⟨_,rfl⟩
     subst hwo
     go_wp2_with fail
     go_loopw [5,6,69] (fun v5 v6 ji wr=>∃ (j:Nat) (ap:Option Addr) (np cp:Nat) (aq:Option Addr) (ns cs:Nat) (gs1:List Gp) (ss1:List Sp),j≤gs2.length∧ji = .int .i64 (j:Int)∧v5 = .slice ap np cp∧v6 = .slice aq ns cs∧np=gs1.length∧ns=ss1.length∧gs1=gs++gs2.take j∧ss1=ss++spotsOf i ((gs2.take j).map (·.p))∧InR w wr F6 (.slice ap np cp) (.slice aq ns cs) vz gs1 ss1 zs a2 gs2∧But (fun b=>w.heap.size≤b∧¬ F6 b) wo wr) (fun _ _ ji _=>gs2.length - (intOf ji).toNat)
     case atStart=>exact ⟨0,ap,np,cp,aq,ns,cs,gs,ss,Nat.zero_le _,rfl,rfl,rfl,HNP.out.1,HNP.out.2,by simp,by simp [spotsOf],HIN6.out,But.refl _ _⟩
     case round =>
      obtain ⟨j,ap1,np1,cp1,aq1,ns1,cs1,gs1,ss1,hj,rfl,rfl,rfl,hnp1,hns1,hgs1,hss1,hIn,hbt⟩:=hrel
      by_cases hjl:j < gs2.length
      ·obtain ⟨b2,off2,rfl,hbl2,hcl2⟩:=hIn.src.2 (by omega)
       have e0:wr.cell? ⟨b2,off2+j * 3,none⟩=some (.int .i64 (gs2[j].p.at_:Int)):=hcl2 j hjl 0 _ rfl
       have e1:wr.cell? ⟨b2,off2+j * 3+1,none⟩=some (.int .i64 (gs2[j].p.len:Int)):=hcl2 j hjl 1 _ rfl
       have e2:wr.cell? ⟨b2,off2+j * 3+2,none⟩=some (.slice gs2[j].a gs2[j].p.l.length gs2[j].cap):=hcl2 j hjl 2 _ rfl
       have hgm:gs2[j] ∈ gs2:=List.getElem_mem hjl
       have HTK:=Lib.hid (And.intro (List.take_succ_eq_append_getElem hjl) (spots_snoc (i:=i) hjl))
       obtain ⟨G,hG⟩:∃ G,G=gs2[j]:=⟨_,rfl⟩
       rw [← hG] at e0 e1 e2 hgm HTK
       have HE:=Lib.hid (And.intro hnp1 (And.intro hns1 (And.intro hgs1 (And.intro hss1 (And.intro hIn (And.intro hbt hgm))))))
       have hln:np1≤1000000000∧ns1≤1000000000:=by
        have h1:=congrArg List.length hgs1
        have h2:=congrArg List.length hss1
        rw [List.length_append,List.length_take] at h1
        rw [List.length_append] at h2
        unfold spotsOf at h2
        rw [List.length_map,List.length_map,List.length_take] at h2
        omega
       obtain ⟨hln1,hln2⟩:=hln
       clear hcl2 hnp1 hns1 hgs1 hss1 hIn hbt hgm hbl2 hG
       have hbA:=(Below.refl _ wr).alloc (Nat.le_refl _) (.cells #[.int .i64 (G.p.at_:Int),.int .i64 (G.p.len:Int),.slice G.a G.p.l.length G.cap] 103)
       have HIA:=Lib.hid (HE.out.2.2.2.2.1.below hbA)
       have hpo:=HIA.out.sc.pieces
       rw [← HE.out.1] at hpo
       have HPO:=Lib.hid hpo
       have hbx:Disk.Blk (wr.alloc (.cells #[.int .i64 (G.p.at_:Int),.int .i64 (G.p.len:Int),.slice G.a G.p.l.length G.cap] 103)) wr.heap.size 103 #[.int .i64 (G.p.at_:Int),.int .i64 (G.p.len:Int),.slice G.a G.p.l.length G.cap]:=Disk.Blk.new _ _ _
       have hown0:∀ q,(Value.slice ap1 np1 cp1).ownBlock=some q→q < wr.heap.size∧w.heap.size≤q∧¬ F6 q:=fun q hq=>⟨(HE.out.2.2.2.2.1.sc.pieces.lt q hq).2,(HE.out.2.2.2.2.1.sc.pieces.lt q hq).1,HE.out.2.2.2.2.1.sc.free q (.inl hq)⟩
       have HOWN:=Lib.hid hown0
       have HBX:=Lib.hid hbx
       clear hbA hpo hbx hown0
       go_wp2_with (first
        | (at_builtin;refine wpList_append_onto rfl (.tmp 73) (.tmp 75) _ rfl w.heap.size 103 i0 _ 3 40 Tryz.underlying27 hi0 hz0 hz1 hz2 rfl (by omega) (.slice ap1 np1 cp1) np1 (gpl gs1) rfl (ownsRow_alloc HPO.out _) _ 1 (gcells G) rfl (sees_cells _ _ _ rfl _ rfl _ _ _ (by simp)) (Torn.gcells_one _) (by unfold maxLen;omega) (by omega) (by have:=HIA.out.sc.size;simp at this ⊢; omega) ?_
           intro v5 w5 ho5 hon5
           have hon6:=hon5.of_alloc (fun q hq=>(HPO.out.lt q hq).2)
           obtain ⟨g5,c5,rfl⟩:=own_slice ho5
           have hi5:=HIA.out.piece HE.out.2.2.2.2.2.2 (v' := .slice (some ⟨g5,0,none⟩) (np1+1) c5) (by rw [← HE.out.1];exact ho5) hon6
           have hbx5:=HBX.out.but hon6.but (fun e=>by have:=(HOWN.out _ e.symm).1;omega)
           have e3:w5.cell? ⟨wr.heap.size,0,none⟩=some (.int .i64 (G.p.at_:Int)):=hbx5.cell 0
           have e4:w5.cell? ⟨wr.heap.size,1,none⟩=some (.int .i64 (G.p.len:Int)):=hbx5.cell 1
           have HI5:=Lib.hid hi5
           have HN5:=Lib.hid hon6
           have hso:=hi5.sc.spots
           rw [← HE.out.2.1] at hso
           have HSO:=Lib.hid hso
           clear ho5 hon5 hon6 hi5 hbx5 hso)
        | (at_builtin;refine wpList_append_onto rfl (.tmp 77) (.tmp 84) _ rfl w.heap.size 47 i1 _ 3 24 Tryz.underlying28 hi1 hy0 hy1 hy2 rfl (by omega) (.slice aq1 ns1 cs1) ns1 (spl ss1) rfl (ownsRow_alloc HSO.out _) _ 1 (spc ⟨i,G.p.at_,G.p.len⟩) rfl (sees_cells _ _ _ rfl _ rfl _ _ _ (by simp)) (spc_one _) (by unfold maxLen;omega) (by omega) (by have:=HI5.out.sc.size;simp at this ⊢; omega) ?_
           intro v6 w6 ho6 hon6
           have hon7:=hon6.of_alloc (fun q hq=>(HSO.out.lt q hq).2)
           obtain ⟨g6,c6,rfl⟩:=own_slice ho6
           have hi6:=HI5.out.spot (s:=⟨i,G.p.at_,G.p.len⟩) (v' := .slice (some ⟨g6,0,none⟩) (ns1+1) c6) (by rw [← HE.out.2.1];exact ho6) hon7
           have HI6:=Lib.hid hi6
           have HN6:=Lib.hid hon7
           clear ho6 hon6 hon7 hi6 e3 e4))
       have hbtn:But (fun b=>w.heap.size≤b∧¬ F6 b) wo w6:=by
        have b1:=HE.out.2.2.2.2.2.1.trans ((But.refl (fun _=>False) wr).alloc (.cells #[.int .i64 (G.p.at_:Int),.int .i64 (G.p.len:Int),.slice G.a G.p.l.length G.cap] 103)) (fun _ _ e=>e.elim)
        have b2:=b1.trans HN5.out.but (fun q _ e=>(HOWN.out q e.symm).2)
        exact b2.trans HN6.out.but (fun q _ e=>⟨(HI5.out.sc.spots.lt q e.symm).1,HI5.out.sc.free q (.inr (.inl e.symm))⟩)
       have HBTN:=Lib.hid hbtn
       clear hbtn
       go_roundw
       case rel =>
        have q1:np1+1=(gs1++[G]).length:=by rw [List.length_append,List.length_singleton,← HE.out.1]
        have q2:ns1+1=(ss1++[(⟨i,G.p.at_,G.p.len⟩:Sp)]).length:=by rw [List.length_append,List.length_singleton,← HE.out.2.1]
        have q3:gs1++[G]=gs++gs2.take (j+1):=by rw [HTK.out.1,HE.out.2.2.1,List.append_assoc]
        have q4:ss1++[(⟨i,G.p.at_,G.p.len⟩:Sp)]=ss++spotsOf i ((gs2.take (j+1)).map (·.p)):=by rw [HTK.out.2,HE.out.2.2.2.1,List.append_assoc]
        exact ⟨j+1,_,_,_,_,_,_,gs1++[G],_,by omega,by go_num,rfl,rfl,q1,q2,q3,q4,HI6.out,HBTN.out⟩
       case measure=>simp [intOf];omega
      ·have hjn:j=gs2.length:=by omega
       have hall:gs2.take j=gs2:=List.take_of_length_le (by omega)
       rw [hall] at hgs1 hss1
       have hlbl:=HLB.out.lt
       have hlog:=HO6.out.log.but hbt (fun h=>by have:=h.1;omega)
       obtain ⟨az,nz,cz,rfl⟩:=own_any hIn.sc.sizes
       have z5:wr.cell? ⟨lb,5,none⟩=some (.slice az nz cz):=hlog.cell 5
       have y5:wr.frozen? ⟨lb,5,none⟩=false:=hlog.frozen 5
       have hdw:=HO6.out.dsk.but_ hbt (fun b hb h=>h.2 hb)
       have HX:=Lib.hid (And.intro hnp1 (And.intro hns1 (And.intro hgs1 (And.intro hss1 (And.intro hIn.sc (And.intro hbt (And.intro hlog hdw)))))))
       have hzl:zs.length≤1000:=by rw [HO6.out.siz];unfold sizesIn;rw [List.length_map,List.length_take];omega
       subst hjn
       clear hnp1 hns1 hgs1 hss1 hIn hbt hlog hdw hall hj hjl
       go_wp2_with (at_builtin;refine wpList_append_onto rfl (.tmp 91) (.tmp 93) _ rfl w.heap.size 3 i2 _ 1 8 Tryz.underlying60 hi2 hx0 hx1 hx2 rfl (by omega) (.slice az nz cz) zs.length (intCells zs) rfl (ownsRow_alloc HX.out.2.2.2.2.1.sizes _) _ 1 [.int .i64 (N:Int)] rfl (sees_one _ _ _ _) (by intro u hu;rw [List.mem_singleton.1 hu];rfl) (by unfold maxLen;omega) (by omega) (by have:=HX.out.2.2.2.2.1.size;simp;omega) ?_
                    intro v7 w7 ho7 hon7
                    have hon8:=hon7.of_alloc (fun q hq=>(HX.out.2.2.2.2.1.sizes.lt q hq).2)
                    rw [intCells_snoc] at ho7
                    obtain ⟨g7,c7,rfl⟩:=own_slice ho7
                    have hr7:=HX.out.2.2.2.2.1.siz (v' := .slice (some ⟨g7,0,none⟩) (zs.length+1) c7) ho7 hon8
                    have hl7:=HX.out.2.2.2.2.2.2.1.but hon8.but (fun e=>by have:=(HX.out.2.2.2.2.1.sizes.lt _ e.symm).1;omega)
                    have hd7:=HX.out.2.2.2.2.2.2.2.but_ hon8.but (fun b hb e=>HX.out.2.2.2.2.1.free b (.inr (.inr e.symm)) hb)
                    have z7:w7.cell? ⟨lb,5,none⟩=some _:=hl7.cell 5
                    have y7:w7.frozen? ⟨lb,5,none⟩=false:=hl7.frozen 5
                    have H7:=Lib.hid (And.intro hr7 (And.intro hl7 (And.intro hd7 hon8)))
                    clear ho7 hon7 hon8 hr7 hl7 hd7 z5 y5)
       have hbs:=Disk.but_set w7 lb 5 (.slice (some ⟨g7,0,none⟩) (zs.length+1) c7)
       obtain ⟨hnp1,hns1,hgs1,hss1,-,hbt,-,-⟩:=HX.out
       obtain ⟨hr7,hl7,hd7,hon8⟩:=H7.out
       have hfin:OutR w p lb g c F limit nums base begun fl R.2 F6 (.slice ap1 np1 cp1) (.slice aq1 ns1 cs1) (.slice (some ⟨g7,0,none⟩) (zs.length+1) c7) gs1 ss1 (zs++[N]) (k+1) (w7.setCell ⟨lb,5,none⟩ (.slice (some ⟨g7,0,none⟩) (zs.length+1) c7)):=by
        have hs1:=hbt.size
        have hs2:=hon8.grown.size
        have hs3:=hbs.size
        refine ⟨hd7.but_ hbs (fun b hb e=>HO6.out.flb (e ▸ hb)),fun b hb=>?_,?_,hr7.but hbs (fun b hb=>by rw [show b=lb from hb];exact hlbl),hl7.set_ 5 _,HO6.out.flb,HO6.out.fg,?_,?_,?_⟩
        ·rcases HO6.out.sub b hb with h1|h1
         ·exact .inl h1
         ·exact .inr ⟨h1.1,by omega⟩
        ·have b1:=HO6.out.but.trans hbt (fun b hb h=>by have:=h.1;omega)
         have b2:=b1.trans hon8.but (fun b hb e=>by have:=(HX.out.2.2.2.2.1.sizes.lt b e.symm).1;omega)
         exact b2.trans hbs (fun b _ e => .inr e)
        ·rw [hgs1,List.map_append,HO6.out.pcs,HGP.out,piecesIn_succ hlt,← HI.out]
        ·rw [hss1,HO6.out.spo,HGP.out,spotsIn_succ hlt,← HI.out]
        ·rw [HO6.out.siz,sizesIn_succ hlt,← HI.out,HMN.out.2]
       have HFN:=Lib.hid hfin
       have HNQ:=Lib.hid (And.intro hnp1 hns1)
       clear hfin hbs hnp1 hns1 hgs1 hss1 hbt hr7 hl7 hd7 hon8
       go_roundw
       case rel=>exact ⟨k+1,_,_,_,_,_,_,R.2,F6,_,gs1,ss1,zs++[N],by omega,by go_num,rfl,rfl,HNQ.out.1,HNQ.out.2,HFN.out,(fun h=>by have:=HRS.out.2.1;omega),(fun _=>⟨HR0.out,rfl⟩)⟩
       case measure=>simp [intOf];omega
    ·have hv:=errV_bad hr0
     unfold After at c6
     rw [hv] at c6
     have HV:=Lib.hid (And.intro hr0 hv)
     clear hr0 hv
     refine Late.Goes.one (i:=7) (by kernel_rfl) (by simp only [List.getElem?_toArray,List.getElem?_cons_succ,List.getElem?_cons_zero];rfl) (fun K hK=>?_)
     clear hH
     go_simp
     go_at_call 56
     refine c6.mono ?_
     rintro e w6 ⟨rfl,hN6⟩
     have hlog6:=HO5.out.log.but hN6.2 HO5.out.flb
     have hend:∃ F1,Dsk w6 p R.2 F1∧(∀ j,F1 j→grow F w w6 j)∧But (fun j=>F j∨j=lb) w w6:=by
      refine ⟨_,hN6.1,fun b hb=>?_,HO5.out.but.trans hN6.2 (fun b hb hF=>?_)⟩
      ·rcases hb with hb|hb
       ·rcases HO5.out.sub b hb with h1|h1
        ·exact .inl h1
        ·exact .inr ⟨h1.1,Nat.lt_of_lt_of_le h1.2 hN6.size⟩
       ·exact .inr ⟨Nat.le_trans HO5.out.rows.size hb.1,hb.2⟩
      ·rcases HO5.out.sub b hF with h1|h1
       ·exact .inl h1
       ·omega
     have HEND:=Lib.hid hend
     have HL6:=Lib.hid hlog6
     clear c6 hN6 hlog6 hend
     refine hK.out _ _ ?_ (fun hH=>?_)
     ·exact fun _=>HL6.out
     clear hK K
     have hH:=hH rfl
     try simp only [Act.put,List.setIfInBounds_toArray,List.set_cons_zero,List.set_cons_succ]
     refine Late.tk 8 ?_ ?_ hH ?_;rotate_left 2
     rotate_left
     any_goals (intro wy hSw;(try dsimp only at hSw);have k0:wy.cell? ⟨lb,0,none⟩=some (.pointer (some ⟨p,0,none⟩)):=hSw.cell 0;go_simp;try (with_reducible rfl))
     try simp only [Act.put,List.setIfInBounds_toArray,List.set_cons_zero,List.set_cons_succ]
     refine Late.Goes.done (by kernel_rfl) ?_ _
     go_wp2_with fail
     go_ret3
     exact .inr ⟨HV.out.1,HEND.out,by rw [HV.out.2];rfl⟩
   ·have hkn:k+1=nums.length→R.1=0∧S1=R.2:=by
     intro h1
     have hiL:i=L:=by rw [HI.out];exact (idx_last HL.out.2 HL.out.1 hlt).2 h1
     have hrr:R=run [] S1:=by
      rw [HRR.out,← hiL,← HMN.out.1,← HMN.out.2,decide_eq_false htn];rfl
     rw [hrr]
     exact ⟨rfl,rfl⟩
    have HKN:=Lib.hid hkn
    clear hkn
    obtain ⟨wo,hwo⟩:∃ wo:World,wo=w3:=⟨_,rfl⟩
    subst hwo
    go_wp2_with fail
    go_loopw [5,6,69] (fun v5 v6 ji wr=>∃ (j:Nat) (ap:Option Addr) (np cp:Nat) (aq:Option Addr) (ns cs:Nat) (gs1:List Gp) (ss1:List Sp),j≤gs2.length∧ji = .int .i64 (j:Int)∧v5 = .slice ap np cp∧v6 = .slice aq ns cs∧np=gs1.length∧ns=ss1.length∧gs1=gs++gs2.take j∧ss1=ss++spotsOf i ((gs2.take j).map (·.p))∧InR w wr F1 (.slice ap np cp) (.slice aq ns cs) vz gs1 ss1 zs a2 gs2∧But (fun b=>w.heap.size≤b∧¬ F1 b) wo wr) (fun _ _ ji _=>gs2.length - (intOf ji).toNat)
    case atStart=>exact ⟨0,ap,np,cp,aq,ns,cs,gs,ss,Nat.zero_le _,rfl,rfl,rfl,HNP.out.1,HNP.out.2,by simp,by simp [spotsOf],HIN3.out,But.refl _ _⟩
    case round =>
     obtain ⟨j,ap1,np1,cp1,aq1,ns1,cs1,gs1,ss1,hj,rfl,rfl,rfl,hnp1,hns1,hgs1,hss1,hIn,hbt⟩:=hrel
     by_cases hjl:j < gs2.length
     ·obtain ⟨b2,off2,rfl,hbl2,hcl2⟩:=hIn.src.2 (by omega)
      have e0:wr.cell? ⟨b2,off2+j * 3,none⟩=some (.int .i64 (gs2[j].p.at_:Int)):=hcl2 j hjl 0 _ rfl
      have e1:wr.cell? ⟨b2,off2+j * 3+1,none⟩=some (.int .i64 (gs2[j].p.len:Int)):=hcl2 j hjl 1 _ rfl
      have e2:wr.cell? ⟨b2,off2+j * 3+2,none⟩=some (.slice gs2[j].a gs2[j].p.l.length gs2[j].cap):=hcl2 j hjl 2 _ rfl
      have hgm:gs2[j] ∈ gs2:=List.getElem_mem hjl
      have HTK:=Lib.hid (And.intro (List.take_succ_eq_append_getElem hjl) (spots_snoc (i:=i) hjl))
      obtain ⟨G,hG⟩:∃ G,G=gs2[j]:=⟨_,rfl⟩
      rw [← hG] at e0 e1 e2 hgm HTK
      have HE:=Lib.hid (And.intro hnp1 (And.intro hns1 (And.intro hgs1 (And.intro hss1 (And.intro hIn (And.intro hbt hgm))))))
      have hln:np1≤1000000000∧ns1≤1000000000:=by
       have h1:=congrArg List.length hgs1
       have h2:=congrArg List.length hss1
       rw [List.length_append,List.length_take] at h1
       rw [List.length_append] at h2
       unfold spotsOf at h2
       rw [List.length_map,List.length_map,List.length_take] at h2
       omega
      obtain ⟨hln1,hln2⟩:=hln
      clear hcl2 hnp1 hns1 hgs1 hss1 hIn hbt hgm hbl2 hG
      have hbA:=(Below.refl _ wr).alloc (Nat.le_refl _) (.cells #[.int .i64 (G.p.at_:Int),.int .i64 (G.p.len:Int),.slice G.a G.p.l.length G.cap] 103)
      have HIA:=Lib.hid (HE.out.2.2.2.2.1.below hbA)
      have hpo:=HIA.out.sc.pieces
      rw [← HE.out.1] at hpo
      have HPO:=Lib.hid hpo
      have hbx:Disk.Blk (wr.alloc (.cells #[.int .i64 (G.p.at_:Int),.int .i64 (G.p.len:Int),.slice G.a G.p.l.length G.cap] 103)) wr.heap.size 103 #[.int .i64 (G.p.at_:Int),.int .i64 (G.p.len:Int),.slice G.a G.p.l.length G.cap]:=Disk.Blk.new _ _ _
      have hown0:∀ q,(Value.slice ap1 np1 cp1).ownBlock=some q→q < wr.heap.size∧w.heap.size≤q∧¬ F1 q:=fun q hq=>⟨(HE.out.2.2.2.2.1.sc.pieces.lt q hq).2,(HE.out.2.2.2.2.1.sc.pieces.lt q hq).1,HE.out.2.2.2.2.1.sc.free q (.inl hq)⟩
      have HOWN:=Lib.hid hown0
      have HBX:=Lib.hid hbx
      clear hbA hpo hbx hown0
      go_wp2_with (first
       | (at_builtin;refine wpList_append_onto rfl (.tmp 73) (.tmp 75) _ rfl w.heap.size 103 i0 _ 3 40 Tryz.underlying27 hi0 hz0 hz1 hz2 rfl (by omega) (.slice ap1 np1 cp1) np1 (gpl gs1) rfl (ownsRow_alloc HPO.out _) _ 1 (gcells G) rfl (sees_cells _ _ _ rfl _ rfl _ _ _ (by simp)) (Torn.gcells_one _) (by unfold maxLen;omega) (by omega) (by have:=HIA.out.sc.size;simp at this ⊢; omega) ?_
          intro v5 w5 ho5 hon5
          have hon6:=hon5.of_alloc (fun q hq=>(HPO.out.lt q hq).2)
          obtain ⟨g5,c5,rfl⟩:=own_slice ho5
          have hi5:=HIA.out.piece HE.out.2.2.2.2.2.2 (v' := .slice (some ⟨g5,0,none⟩) (np1+1) c5) (by rw [← HE.out.1];exact ho5) hon6
          have hbx5:=HBX.out.but hon6.but (fun e=>by have:=(HOWN.out _ e.symm).1;omega)
          have e3:w5.cell? ⟨wr.heap.size,0,none⟩=some (.int .i64 (G.p.at_:Int)):=hbx5.cell 0
          have e4:w5.cell? ⟨wr.heap.size,1,none⟩=some (.int .i64 (G.p.len:Int)):=hbx5.cell 1
          have HI5:=Lib.hid hi5
          have HN5:=Lib.hid hon6
          have hso:=hi5.sc.spots
          rw [← HE.out.2.1] at hso
          have HSO:=Lib.hid hso
          clear ho5 hon5 hon6 hi5 hbx5 hso)
       | (at_builtin;refine wpList_append_onto rfl (.tmp 77) (.tmp 84) _ rfl w.heap.size 47 i1 _ 3 24 Tryz.underlying28 hi1 hy0 hy1 hy2 rfl (by omega) (.slice aq1 ns1 cs1) ns1 (spl ss1) rfl (ownsRow_alloc HSO.out _) _ 1 (spc ⟨i,G.p.at_,G.p.len⟩) rfl (sees_cells _ _ _ rfl _ rfl _ _ _ (by simp)) (spc_one _) (by unfold maxLen;omega) (by omega) (by have:=HI5.out.sc.size;simp at this ⊢; omega) ?_
          intro v6 w6 ho6 hon6
          have hon7:=hon6.of_alloc (fun q hq=>(HSO.out.lt q hq).2)
          obtain ⟨g6,c6,rfl⟩:=own_slice ho6
          have hi6:=HI5.out.spot (s:=⟨i,G.p.at_,G.p.len⟩) (v' := .slice (some ⟨g6,0,none⟩) (ns1+1) c6) (by rw [← HE.out.2.1];exact ho6) hon7
          have HI6:=Lib.hid hi6
          have HN6:=Lib.hid hon7
          clear ho6 hon6 hon7 hi6 e3 e4))
      have hbtn:But (fun b=>w.heap.size≤b∧¬ F1 b) wo w6:=by
       have b1:=HE.out.2.2.2.2.2.1.trans ((But.refl (fun _=>False) wr).alloc (.cells #[.int .i64 (G.p.at_:Int),.int .i64 (G.p.len:Int),.slice G.a G.p.l.length G.cap] 103)) (fun _ _ e=>e.elim)
       have b2:=b1.trans HN5.out.but (fun q _ e=>(HOWN.out q e.symm).2)
       exact b2.trans HN6.out.but (fun q _ e=>⟨(HI5.out.sc.spots.lt q e.symm).1,HI5.out.sc.free q (.inr (.inl e.symm))⟩)
      have HBTN:=Lib.hid hbtn
      clear hbtn
      go_roundw
      case rel =>
       have q1:np1+1=(gs1++[G]).length:=by rw [List.length_append,List.length_singleton,← HE.out.1]
       have q2:ns1+1=(ss1++[(⟨i,G.p.at_,G.p.len⟩:Sp)]).length:=by rw [List.length_append,List.length_singleton,← HE.out.2.1]
       have q3:gs1++[G]=gs++gs2.take (j+1):=by rw [HTK.out.1,HE.out.2.2.1,List.append_assoc]
       have q4:ss1++[(⟨i,G.p.at_,G.p.len⟩:Sp)]=ss++spotsOf i ((gs2.take (j+1)).map (·.p)):=by rw [HTK.out.2,HE.out.2.2.2.1,List.append_assoc]
       exact ⟨j+1,_,_,_,_,_,_,gs1++[G],_,by omega,by go_num,rfl,rfl,q1,q2,q3,q4,HI6.out,HBTN.out⟩
      case measure=>simp [intOf];omega
     ·have hjn:j=gs2.length:=by omega
      have hall:gs2.take j=gs2:=List.take_of_length_le (by omega)
      rw [hall] at hgs1 hss1
      have hlbl:=HLB.out.lt
      have hlog:=HO3.out.log.but hbt (fun h=>by have:=h.1;omega)
      obtain ⟨az,nz,cz,rfl⟩:=own_any hIn.sc.sizes
      have z5:wr.cell? ⟨lb,5,none⟩=some (.slice az nz cz):=hlog.cell 5
      have y5:wr.frozen? ⟨lb,5,none⟩=false:=hlog.frozen 5
      have hdw:=HO3.out.dsk.but_ hbt (fun b hb h=>h.2 hb)
      have HX:=Lib.hid (And.intro hnp1 (And.intro hns1 (And.intro hgs1 (And.intro hss1 (And.intro hIn.sc (And.intro hbt (And.intro hlog hdw)))))))
      have hzl:zs.length≤1000:=by rw [HO3.out.siz];unfold sizesIn;rw [List.length_map,List.length_take];omega
      subst hjn
      clear hnp1 hns1 hgs1 hss1 hIn hbt hlog hdw hall hj hjl
      go_wp2_with (at_builtin;refine wpList_append_onto rfl (.tmp 91) (.tmp 93) _ rfl w.heap.size 3 i2 _ 1 8 Tryz.underlying60 hi2 hx0 hx1 hx2 rfl (by omega) (.slice az nz cz) zs.length (intCells zs) rfl (ownsRow_alloc HX.out.2.2.2.2.1.sizes _) _ 1 [.int .i64 (N:Int)] rfl (sees_one _ _ _ _) (by intro u hu;rw [List.mem_singleton.1 hu];rfl) (by unfold maxLen;omega) (by omega) (by have:=HX.out.2.2.2.2.1.size;simp;omega) ?_
                   intro v7 w7 ho7 hon7
                   have hon8:=hon7.of_alloc (fun q hq=>(HX.out.2.2.2.2.1.sizes.lt q hq).2)
                   rw [intCells_snoc] at ho7
                   obtain ⟨g7,c7,rfl⟩:=own_slice ho7
                   have hr7:=HX.out.2.2.2.2.1.siz (v' := .slice (some ⟨g7,0,none⟩) (zs.length+1) c7) ho7 hon8
                   have hl7:=HX.out.2.2.2.2.2.2.1.but hon8.but (fun e=>by have:=(HX.out.2.2.2.2.1.sizes.lt _ e.symm).1;omega)
                   have hd7:=HX.out.2.2.2.2.2.2.2.but_ hon8.but (fun b hb e=>HX.out.2.2.2.2.1.free b (.inr (.inr e.symm)) hb)
                   have z7:w7.cell? ⟨lb,5,none⟩=some _:=hl7.cell 5
                   have y7:w7.frozen? ⟨lb,5,none⟩=false:=hl7.frozen 5
                   have H7:=Lib.hid (And.intro hr7 (And.intro hl7 (And.intro hd7 hon8)))
                   clear ho7 hon7 hon8 hr7 hl7 hd7 z5 y5)
      have hbs:=Disk.but_set w7 lb 5 (.slice (some ⟨g7,0,none⟩) (zs.length+1) c7)
      obtain ⟨hnp1,hns1,hgs1,hss1,-,hbt,-,-⟩:=HX.out
      obtain ⟨hr7,hl7,hd7,hon8⟩:=H7.out
      have hfin:OutR w p lb g c F limit nums base begun fl S1 F1 (.slice ap1 np1 cp1) (.slice aq1 ns1 cs1) (.slice (some ⟨g7,0,none⟩) (zs.length+1) c7) gs1 ss1 (zs++[N]) (k+1) (w7.setCell ⟨lb,5,none⟩ (.slice (some ⟨g7,0,none⟩) (zs.length+1) c7)):=by
       have hs1:=hbt.size
       have hs2:=hon8.grown.size
       have hs3:=hbs.size
       refine ⟨hd7.but_ hbs (fun b hb e=>HO3.out.flb (e ▸ hb)),fun b hb=>?_,?_,hr7.but hbs (fun b hb=>by rw [show b=lb from hb];exact hlbl),hl7.set_ 5 _,HO3.out.flb,HO3.out.fg,?_,?_,?_⟩
       ·rcases HO3.out.sub b hb with h1|h1
        ·exact .inl h1
        ·exact .inr ⟨h1.1,by omega⟩
       ·have b1:=HO3.out.but.trans hbt (fun b hb h=>by have:=h.1;omega)
        have b2:=b1.trans hon8.but (fun b hb e=>by have:=(HX.out.2.2.2.2.1.sizes.lt b e.symm).1;omega)
        exact b2.trans hbs (fun b _ e => .inr e)
       ·rw [hgs1,List.map_append,HO3.out.pcs,HGP.out,piecesIn_succ hlt,← HI.out]
       ·rw [hss1,HO3.out.spo,HGP.out,spotsIn_succ hlt,← HI.out]
       ·rw [HO3.out.siz,sizesIn_succ hlt,← HI.out,HMN.out.2]
      have HFN:=Lib.hid hfin
      have HNQ:=Lib.hid (And.intro hnp1 hns1)
      clear hfin hbs hnp1 hns1 hgs1 hss1 hbt hr7 hl7 hd7 hon8
      go_roundw
      case rel=>exact ⟨k+1,_,_,_,_,_,_,S1,F1,_,gs1,ss1,zs++[N],by omega,by go_num,rfl,rfl,HNQ.out.1,HNQ.out.2,HFN.out,(fun _=>rfl),HKN.out⟩
      case measure=>simp [intOf];omega
  ·have hkn:k=nums.length:=by omega
   obtain ⟨hr0,hSR⟩:=hSn hkn
   have HFIN:=Lib.hid (And.intro hr0 (And.intro hSR (And.intro hnp (And.intro hns hO))))
   clear hS1 hSn hO hnp hns hr0 hSR hk hlt
   subst hkn
   go_wp2_with fail
   go_ret3
   obtain ⟨q1,q2,q3,q4,q5⟩:=HFIN.out
   subst q2
   subst q3
   subst q4
   exact .inl ⟨q1,F1,ap,cp,aq,cs,vz,gs,ss,zs,rfl,q5⟩
end
end Go.Proofs.YtbhoknnjilidnaaGreatDoor.Seg

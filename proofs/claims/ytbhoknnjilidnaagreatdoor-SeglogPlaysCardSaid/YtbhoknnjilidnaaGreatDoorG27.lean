/- The disk beside a log: each effect, as a call on it. Contracts of what a log does with files: a file is appended to and synced, cut and synced, read whole; files are deleted in their order. The library's contracts on numbers' texts and on slices, laid at this translation by the kit's tools. -/
import Derived.Test.YtbhoknnjilidnaaGreatDoorG25
import Derived.Test.YtbhoknnjilidnaaGreatDoorG23
import Derived.Test.YtbhoknnjilidnaaGreatDoorG24
import Derived.Test.YtbhoknnjilidnaaGreatDoorG26
import Derived.Test.YtbhoknnjilidnaaGreatDoorG18
import Derived.Shelf.Strconv.Itoa0
import Derived.Shelf.Strconv.Itoa1
import Derived.Shelf.LaysM
import Derived.Shelf.Strconv.Itoa2
import Derived.Shelf.Strconv.Itoa3
import Derived.Shelf.Slices.Turned
import Derived.Ground.Names2Prog
import Derived.Shelf.Slices.Clone
import Derived.Shelf.Slices.SearchI
import Derived.Shelf.Slices.Empties
import Derived.Ground.SlgmProg
import Derived.Test.YtbhoknnjilidnaaGreatDoorProg
set_option linter.unusedVariables false
set_option maxHeartbeats 2000000
set_option maxRecDepth 100000
section
namespace Go.Proofs.YtbhoknnjilidnaaGreatDoor.Seg
open Go.Proofs.YtbhoknnjilidnaaGreatDoor.Mem
open Go.Proofs.YtbhoknnjilidnaaGreatDoor.Disk (Nm File St Eff Has grow errV used lenOf)
open Go.Proofs (encStr)
open Go.ChangeShapes Go.WideShapes Go.ChangeAt Go.RowKit
def Dsk (w:World) (p:Nat) (S:St) (F:Nat→Prop):Prop:=Has w p S F∧Ok S
def Next (w:World) (p:Nat) (F:Nat→Prop) (S':St) (w':World):Prop:=Dsk w' p S' (grow F w w')∧But F w w'
def After (w:World) (p:Nat) (F:Nat→Prop) (r:Int × St) (e:Ending) (w':World):Prop:=e = .returned (errV r.1)∧Next w p F r.2 w'
section
variable {w w1 w2:World} {p:Nat} {S S1 S2:St} {F:Nat→Prop}
theorem Dsk.lt (h:Dsk w p S F):∀ k,F k→k < w.heap.size:=by obtain ⟨⟨_,_,_,_,_,_,h3⟩,_⟩:=h;exact h3
theorem Dsk.used (h:Dsk w p S F):Disk.used S≤1000000000:=by have:=h.2.used;omega
theorem Next.size (h:Next w p F S1 w1):w.heap.size≤w1.heap.size:=h.2.size
theorem Next.refl (h:Dsk w p S F):Next w p F S w:=⟨⟨Disk.grow_refl h.1,h.2⟩,But.refl F w⟩
theorem Next.new (h:Dsk w p S F) (hb:Below w.heap.size w w1):Next w p F S w1:=by
 have hlt:=h.lt
 have h1:=h.1.but (But.of_below hb) (fun k hk hge=>by have:=hlt k hk;omega)
 refine ⟨⟨h1.mono (fun k hk => .inl hk) (fun k hk=>?_),h.2⟩,But.of_new hb⟩
 rcases hk with hk|hk
 ·have:=hlt k hk;have:=hb.size;omega
 ·exact hk.2
theorem Next.trans (h:Next w p F S1 w1) (hk:Next w1 p (grow F w w1) S2 w2):Next w p F S2 w2:=by
 have s1:=h.size
 have s2:=hk.size
 refine ⟨⟨hk.1.1.mono (fun k hg=>?_) (fun k hg=>?_),hk.1.2⟩,h.2.trans hk.2 (fun i hi hg=>?_)⟩
 ·rcases hg with (hg|hg)|hg
  ·exact .inl hg
  ·exact .inr ⟨hg.1,by omega⟩
  ·exact .inr ⟨by omega,hg.2⟩
 ·rcases hg with hg|hg
  ·have:=h.1.lt k (.inl hg);omega
  ·exact hg.2
 ·rcases hg with hg|hg
  ·exact hg
  ·omega
theorem Next.then (h:Next w p F S1 w1) (hb:Below w1.heap.size w1 w2):Next w p F S1 w2:=h.trans (Next.new h.1 hb)
theorem Dsk.below (h:Dsk w p S F) (hb:Below w.heap.size w w1):Dsk w1 p S F:=by
 have hlt:=h.lt
 exact ⟨h.1.but (But.of_below hb) (fun k hk hge=>by have:=hlt k hk;omega),h.2⟩
theorem Next.after (hb:Below w.heap.size w w1) (h:Next w1 p F S w2):Next w p F S w2:=by
 have s1:=hb.size
 have s2:=h.size
 refine ⟨⟨h.1.1.mono (fun k hg=>?_) (fun k hg=>?_),h.1.2⟩,(But.of_new hb).trans h.2 (fun i hi hg=>hg)⟩
 ·rcases hg with hg|hg
  ·exact .inl hg
  ·exact .inr ⟨by omega,hg.2⟩
 ·rcases hg with hg|hg
  ·exact h.1.lt k (.inl hg)
  ·exact hg.2
theorem After.after {r:Int × St} {e:Ending} (hb:Below w.heap.size w w1) (h:After w1 p F r e w2):After w p F r e w2:=⟨h.1,Next.after hb h.2⟩
theorem Next.not_ {k:Nat} (h1:¬ F k) (h2:k < w.heap.size):¬ grow F w w1 k:=by
 rintro (h|h)
 ·exact h1 h
 ·omega
theorem After.then_ {r:Int × St} {e:Ending} (h:Next w p F S1 w1) (hk:After w1 p (grow F w w1) r e w2):After w p F r e w2:=⟨hk.1,h.trans hk.2⟩
theorem dsk_new (h:Dsk w p S F) (s:ByteArray) (hs:s.size≤maxLen) :
  Calls Tryz.prog 59 #[.pointer (some ⟨p,0,none⟩),.string s] w (After w p F ((Eff.new s.data.toList).call S)) :=
 (Disk.create_any h.1 h.used s hs).mono fun e w' ⟨h1,h2,h3⟩=>⟨h1,⟨h2,ok_call (.new s.data.toList) h.2⟩,h3⟩
theorem dsk_syn (h:Dsk w p S F) (s:ByteArray) (hs:s.size≤maxLen) :
  Calls Tryz.prog 87 #[.pointer (some ⟨p,0,none⟩),.string s] w (After w p F ((Eff.syn s.data.toList).call S)) :=
 (Disk.sync_any h.1 h.used s hs).mono fun e w' ⟨h1,h2,h3⟩=>⟨h1,⟨h2,ok_call (.syn s.data.toList) h.2⟩,h3⟩
theorem dsk_gone (h:Dsk w p S F) (s:ByteArray) (hs:s.size≤maxLen) :
  Calls Tryz.prog 60 #[.pointer (some ⟨p,0,none⟩),.string s] w (After w p F ((Eff.gone s.data.toList).call S)) :=
 (Disk.delete_any h.1 h.used s hs).mono fun e w' ⟨h1,h2,h3⟩=>⟨h1,⟨h2,ok_call (.gone s.data.toList) h.2⟩,h3⟩
theorem dsk_move (h:Dsk w p S F) (s:ByteArray) (hs:s.size≤maxLen) (t:ByteArray) (ht:t.size≤maxLen) :
  Calls Tryz.prog 82 #[.pointer (some ⟨p,0,none⟩),.string s,.string t] w (After w p F ((Eff.move s.data.toList t.data.toList).call S)) :=
 (Disk.rename_any h.1 h.used s hs t ht (by have:=h.2.many;omega)).mono fun e w' ⟨h1,h2,h3⟩=>⟨h1,⟨h2,ok_call (.move s.data.toList t.data.toList) h.2⟩,h3⟩
theorem dsk_short (h:Dsk w p S F) (s:ByteArray) (hs:s.size≤maxLen) (k:Nat) :
  Calls Tryz.prog 86 #[.pointer (some ⟨p,0,none⟩),.string s,.int .i64 (k:Int)] w (After w p F ((Eff.short s.data.toList k).call S)) :=
 (Disk.cut_any h.1 h.used s hs (k:Int)).mono fun e w' ⟨h1,h2,h3⟩=>⟨h1,⟨h2,ok_call (.short s.data.toList k) h.2⟩,h3⟩
theorem dsk_add (h:Dsk w p S F) (s:ByteArray) (hs:s.size≤maxLen) (a:Option Addr) (len cap:Nat) (zs:List Int) (hr:Row w a len zs) (hnil:a=none→cap=0) (hna:∀ q,a=some q→0 < len→¬ F q.block) (hl:len≤900000) :
  Calls Tryz.prog 99 #[.pointer (some ⟨p,0,none⟩),.string s,.slice a len cap] w (After w p F ((Eff.add s.data.toList zs).call S)) :=
 (Disk.append_any h.1 s hs a len cap zs hr hnil hna (by have:=h.2.used;omega)).mono fun e w' ⟨h1,h2,h3⟩=>⟨h1,⟨h2,ok_call (.add s.data.toList zs) h.2⟩,h3⟩
theorem dsk_list (h:Dsk w p S F) :
  Calls Tryz.prog 53 #[.pointer (some ⟨p,0,none⟩)] w fun e w'=>∃ v,e = .returned v∧w'.ownsRow w.heap.size 9 1 v S.files.length ((S.files.map (·.1)).map encStr)∧Below w.heap.size w w':=by
 obtain ⟨⟨mb,cr,es,D,hA,_⟩,hO⟩:=h
 have hf:=hA.files
 have hr:Disk.Rising es:=rising_of_mapv (f:=Disk.Ent.file) (by rw [hf];exact hO.rising)
 have hl:es.length=S.files.length:=by rw [← hf,Disk.length_mapv]
 have hn:es.map (·.1)=S.files.map (·.1):=by rw [← hf];unfold Disk.mapv;rw [List.map_map];rfl
 have:=Disk.list_at hA hr (by rw [hl];have:=hO.many;omega)
 rw [hl,hn] at this
 exact this
theorem dsk_part (h:Dsk w p S F) (hd:S.down=false) (s:ByteArray) (hs:s.size≤maxLen) {f:File} (hl:Disk.look s.data.toList S.files=some f) (off k:Nat) (hk:off+k≤f.bytes.length) :
  Calls Tryz.prog 43 #[.pointer (some ⟨p,0,none⟩),.string s,.int .i64 (off:Int),.int .i64 (k:Int)] w fun x w'=>∃ a c,x = .returned (.tuple #[.slice a k c,errV 0])∧Row w' a k ((f.bytes.drop off).take k)∧Below w.heap.size w w'∧k≤c∧c≤maxLen∧(a=none→c=0):=by
 obtain ⟨⟨mb,cr,es,D,hA,_⟩,hO⟩:=h
 have hq:=hA.look s.data.toList
 rw [hl] at hq
 obtain ⟨e,he,rfl⟩:=Option.map_eq_some_iff.1 hq.symm
 refine Disk.read_yes hA hd s hs he off k hk ?_
 have h1:=Disk.total_le_of (f:=fun e:Disk.Ent=>e.bytes.length) (Disk.look_mem he)
 rw [Disk.used_eq hA] at h1
 have h2:=hO.used
 omega
theorem dsk_len (h:Dsk w p S F) (s:ByteArray) (hs:s.size≤maxLen) :
  Calls Tryz.prog 85 #[.pointer (some ⟨p,0,none⟩),.string s] w fun e w'=>e = .returned (.tuple #[.int .i64 (lenOf S s.data.toList).1,errV (lenOf S s.data.toList).2])∧w=w' :=
 Disk.len_any h.1 s hs
end
end Go.Proofs.YtbhoknnjilidnaaGreatDoor.Seg
end
section
namespace Go.Proofs.YtbhoknnjilidnaaGreatDoor.Seg
open Go.Proofs.YtbhoknnjilidnaaGreatDoor.Mem
open Go.Proofs.YtbhoknnjilidnaaGreatDoor.Disk (Nm File St Eff Has grow errV used lenOf run)
open Go.Proofs (encStr)
open Go.ChangeShapes Go.WideShapes Go.ChangeAt Go.RowKit
theorem errV_ok {c:Int} (h:c=0):errV c = .nilIface:=if_pos h
theorem errV_bad {c:Int} (h:c≠0):errV c = .iface 33 (.int .i64 c):=if_neg h
section
variable {w w1 w2:World} {p:Nat} {S S1 S2:St} {F:Nat→Prop}
theorem appendSynced_any (h:Dsk w p S F) (s:ByteArray) (hs:s.size≤maxLen) (a:Option Addr) (len cap:Nat) (zs:List Int) (hr:Row w a len zs) (hnil:a=none→cap=0) (hna:∀ q,a=some q→0 < len→¬ F q.block) (hl:len≤900000) :
  Calls Tryz.prog 67 #[.pointer (some ⟨p,0,none⟩),.string s,.slice a len cap] w (After w p F (run [.add s.data.toList zs,.syn s.data.toList] S)):=by
 have c1:=dsk_add h s hs a len cap zs hr hnil hna hl
 clear hr hnil hna hl h
 by_cases hc:((Eff.add s.data.toList zs).call S).1=0
 ·rw [run_cons_ok hc,run_one]
  unfold After at c1
  rw [errV_ok hc] at c1
  clear hc
  go_enter Tryz.func67,Tryz.ntmps67
  go_wp2_with fail
  refine c1.mono ?_
  rintro e w1 ⟨rfl,h1⟩
  go_wp2_with fail
  refine (dsk_syn h1.1 s hs).mono ?_
  rintro e w2 h2
  obtain ⟨rfl,h3⟩:=After.then_ h1 h2
  go_wp2
  go_ret
  exact ⟨rfl,h3⟩
 ·rw [run_cons_err hc]
  have hv:errV ((Eff.add s.data.toList zs).call S).1=_:=errV_bad hc
  unfold After at c1 ⊢
  rw [hv] at c1 ⊢
  clear hc hv
  go_enter Tryz.func67,Tryz.ntmps67
  go_wp2_with fail
  refine c1.mono ?_
  rintro e w1 ⟨rfl,h1⟩
  go_wp2
  go_ret
  exact ⟨rfl,h1⟩
theorem cutSynced_any (h:Dsk w p S F) (s:ByteArray) (hs:s.size≤maxLen) (k:Nat) :
  Calls Tryz.prog 56 #[.pointer (some ⟨p,0,none⟩),.string s,.int .i64 (k:Int)] w (After w p F (run [.short s.data.toList k,.syn s.data.toList] S)):=by
 have c1:=dsk_short h s hs k
 clear h
 by_cases hc:((Eff.short s.data.toList k).call S).1=0
 ·rw [run_cons_ok hc,run_one]
  unfold After at c1
  rw [errV_ok hc] at c1
  clear hc
  go_enter Tryz.func56,Tryz.ntmps56
  go_wp2_with fail
  refine c1.mono ?_
  rintro e w1 ⟨rfl,h1⟩
  go_wp2_with fail
  refine (dsk_syn h1.1 s hs).mono ?_
  rintro e w2 h2
  obtain ⟨rfl,h3⟩:=After.then_ h1 h2
  go_wp2
  go_ret
  exact ⟨rfl,h3⟩
 ·rw [run_cons_err hc]
  have hv:errV ((Eff.short s.data.toList k).call S).1=_:=errV_bad hc
  unfold After at c1 ⊢
  rw [hv] at c1 ⊢
  clear hc hv
  go_enter Tryz.func56,Tryz.ntmps56
  go_wp2_with fail
  refine c1.mono ?_
  rintro e w1 ⟨rfl,h1⟩
  go_wp2
  go_ret
  exact ⟨rfl,h1⟩
theorem readFile_yes (h:Dsk w p S F) (hd:S.down=false) (s:ByteArray) (hs:s.size≤maxLen) {f:File} (hl:Disk.look s.data.toList S.files=some f) :
  Calls Tryz.prog 55 #[.pointer (some ⟨p,0,none⟩),.string s] w fun x w' =>
   ∃ a c,x = .returned (.tuple #[.slice a f.bytes.length c,.nilIface])∧Frame.In w' a f.bytes.length c f.bytes∧Below w.heap.size w w':=by
 have c1:=dsk_len h s hs
 have e1:lenOf S s.data.toList=((f.bytes.length:Int),0):=by
  unfold lenOf
  rw [hd,if_neg (by simp),hl]
 rw [e1] at c1
 simp only [errV_ok rfl] at c1
 have c2:=dsk_part h hd s hs hl 0 f.bytes.length (by omega)
 rw [List.drop_zero,List.take_length] at c2
 simp only [errV_ok rfl] at c2
 clear h hl e1
 go_enter Tryz.func55,Tryz.ntmps55
 go_wp2_with fail
 refine c1.mono ?_
 rintro e w1 ⟨rfl,rfl⟩
 go_wp2_with fail
 refine c2.mono ?_
 rintro e w2 ⟨a,c,rfl,hr,hb,h1,h2,h3⟩
 go_wp2
 go_ret2
 exact ⟨a,c,rfl,⟨hr,h1,h2,h3⟩,hb⟩
def Strs (w:World) (a:Option Addr) (ns:List Nm):Prop:=0 < ns.length→∃ b off,a=some ⟨b,off,none⟩∧b < w.heap.size∧∀ i (h:i < ns.length),w.cell? ⟨b,off+i,none⟩=some (.string ⟨ns[i].toArray⟩)
theorem Strs.but {T:Nat→Prop} {a:Option Addr} {ns:List Nm} {w w':World} (h:Strs w a ns) (hb:But T w w') (hT:∀ q,a=some q→0 < ns.length→¬ T q.block):Strs w' a ns:=by
 intro h0
 obtain ⟨b,off,rfl,hlt,hc⟩:=h h0
 exact ⟨b,off,rfl,Nat.lt_of_lt_of_le hlt hb.size,fun i hi=>(hb.cell (p:=⟨b,off+i,none⟩) hlt (show ¬ T b from hT ⟨b,off,none⟩ rfl h0)).trans (hc i hi)⟩
theorem run_snoc {xs:List Eff} {x:Eff} (h:(run xs S).1=0):run (xs++[x]) S=x.call (run xs S).2:=by rw [run_app_ok h,run_one]
theorem run_stop {xs:List Eff} {S:St} (k:Nat) (h:(run (xs.take k) S).1≠0):run xs S=run (xs.take k) S:=by
 conv=>lhs;rw [← List.take_append_drop k xs]
 exact run_app_err h
theorem deleteAll_any (h:Dsk w p S F) (a:Option Addr) (c:Nat) (ns:List Nm) (hn:Strs w a ns) (hna:∀ q,a=some q→0 < ns.length→¬ F q.block) (hsz:∀ n ∈ ns,n.length≤maxLen) (hlen:ns.length≤1000000) :
  Calls Tryz.prog 54 #[.pointer (some ⟨p,0,none⟩),.slice a ns.length c] w (After w p F (run (goneN ns) S)):=by
 have HC:=Lib.hid hn
 have HA:=Lib.hid hna
 have HS:=Lib.hid hsz
 have hN0:=Lib.hid (Next.refl h)
 have hlt0:=h.lt
 clear hn hna hsz h
 go_enter Tryz.func54,Tryz.ntmps54
 go_wp2
 go_loopw [10] (fun i wr=>∃ (k:Nat),k≤ns.length∧i = .int .i64 (k:Int)∧(run (goneN (ns.take k)) S).1=0∧Next w p F (run (goneN (ns.take k)) S).2 wr) (fun i _=>ns.length - (intOf i).toNat)
 case atStart=>exact ⟨0,Nat.zero_le _,rfl,rfl,hN0.out⟩
 case round =>
  obtain ⟨k,hk,rfl,hok,hnx⟩:=hrel
  by_cases hlt:k < ns.length
  ·obtain ⟨b,off,rfl,hblt,hc⟩:=HC.out (by omega)
   have hcell:wr.cell? ⟨b,off+k,none⟩=some (.string ⟨ns[k].toArray⟩):=(hnx.2.cell (p:=⟨b,off+k,none⟩) hblt (show ¬ F b from HA.out ⟨b,off,none⟩ rfl (by omega))).trans (hc k hlt)
   have HBL:=Lib.hid (And.intro hblt hc)
   clear hblt hc
   have hsk:(⟨ns[k].toArray⟩:ByteArray).size≤maxLen:=by
    have:=HS.out ns[k] (List.getElem_mem hlt)
    simpa [ByteArray.size] using this
   have ht:goneN (ns.take (k+1))=goneN (ns.take k)++[.gone ns[k]]:=by
    unfold goneN
    rw [List.take_succ_eq_append_getElem hlt,List.map_append];rfl
   have c1:=dsk_gone hnx.1 ⟨ns[k].toArray⟩ hsk
   have hr1:run (goneN (ns.take (k+1))) S=(Eff.gone ns[k]).call (run (goneN (ns.take k)) S).2:=by rw [ht,run_snoc hok]
   have e1:((⟨ns[k].toArray⟩:ByteArray).data.toList)=ns[k]:=by simp
   rw [e1,← hr1] at c1
   have HT:=Lib.hid hnx
   by_cases hc2:(run (goneN (ns.take (k+1))) S).1=0
   ·unfold After at c1
    rw [errV_ok hc2] at c1
    have HC2:=Lib.hid hc2
    clear hok hnx ht hr1 e1 hc2
    go_wp2_with fail
    refine c1.mono ?_
    rintro e w1 ⟨rfl,h1⟩
    have h2:=Lib.hid (HT.out.trans h1)
    clear h1
    go_wp2_with fail
    go_roundw
    case rel=>exact ⟨k+1,by omega,by go_num,HC2.out,h2.out⟩
    case measure=>simp [intOf];omega
   ·have hv:=errV_bad hc2
    unfold After at c1
    rw [hv] at c1
    have HC2:=Lib.hid hc2
    have HE:=Lib.hid hv
    clear hok hnx ht hr1 e1 hc2 hv
    go_wp2_with fail
    refine c1.mono ?_
    rintro e w1 ⟨rfl,h1⟩
    have h2:=Lib.hid (HT.out.trans h1)
    clear h1
    go_wp2_with fail
    go_ret
    have hst:run (goneN ns) S=run (goneN (ns.take (k+1))) S:=by
     have e2:goneN (ns.take (k+1))=(goneN ns).take (k+1):=by unfold goneN;rw [List.map_take]
     rw [e2]
     refine run_stop (k+1) ?_
     rw [← e2];exact HC2.out
    unfold After
    rw [hst,HE.out]
    exact ⟨rfl,h2.out⟩
  ·have hkl:k=ns.length:=by omega
   have hall:ns.take k=ns:=List.take_of_length_le (by omega)
   rw [hall] at hok hnx
   have HF:=Lib.hid (And.intro hok hnx)
   subst hkl
   clear hok hnx hall
   go_wp2_with fail
   go_ret
   unfold After
   rw [errV_ok HF.out.1]
   exact ⟨rfl,HF.out.2⟩
end
end Go.Proofs.YtbhoknnjilidnaaGreatDoor.Seg
end
section
namespace Go.Proofs
open Go.Shelf
def Tryz.laysM171_ren:Go.Shelf.Ren:=⟨fun|171=>70|243=>100|246=>112|283=>118|284=>119|285=>120|286=>121|129=>133|317=>134|318=>135|319=>136|320=>137|337=>144|338=>145|n=>n,fun|3=>3|9=>9|2=>2|4=>4|171=>173|0=>0|53=>77|37=>81|5=>5|173=>176|212=>189|51=>54|20=>20|213=>190|46=>154|232=>200|233=>201|n=>n,fun|17=>0|18=>1|19=>2|n=>n⟩
theorem Tryz.laysM171:Go.Proofs.LaysM.n171 Tryz.prog Tryz.laysM171_ren:={
 mixed:=by kernel_rfl
 f129:=Tryz.func133.trans (congrArg some (by kernel_rfl))
 f171:=Tryz.func70.trans (congrArg some (by kernel_rfl))
 f243:=Tryz.func100.trans (congrArg some (by kernel_rfl))
 f246:=Tryz.func112.trans (congrArg some (by kernel_rfl))
 f283:=Tryz.func118.trans (congrArg some (by kernel_rfl))
 f284:=Tryz.func119.trans (congrArg some (by kernel_rfl))
 f285:=Tryz.func120.trans (congrArg some (by kernel_rfl))
 f286:=Tryz.func121.trans (congrArg some (by kernel_rfl))
 f317:=Tryz.func134.trans (congrArg some (by kernel_rfl))
 f318:=Tryz.func135.trans (congrArg some (by kernel_rfl))
 f319:=Tryz.func136.trans (congrArg some (by kernel_rfl))
 f320:=Tryz.func137.trans (congrArg some (by kernel_rfl))
 f337:=Tryz.func144.trans (congrArg some (by kernel_rfl))
 f338:=Tryz.func145.trans (congrArg some (by kernel_rfl))
 t0:=Tryz.underlying0
 a0:=Tryz.isAgg0
 z0:=Tryz.sizeOf0
 v0:=Tryz.zeroValue0
 t2:=Tryz.underlying2
 a2:=Tryz.isAgg2
 z2:=Tryz.sizeOf2
 v2:=Tryz.zeroValue2
 t3:=Tryz.underlying3
 a3:=Tryz.isAgg3
 z3:=Tryz.sizeOf3
 v3:=Tryz.zeroValue3
 t4:=Tryz.underlying4
 a4:=Tryz.isAgg4
 z4:=Tryz.sizeOf4
 v4:=Tryz.zeroValue4
 t5:=Tryz.underlying5
 a5:=Tryz.isAgg5
 z5:=Tryz.sizeOf5
 v5:=Tryz.zeroValue5
 t9:=Tryz.underlying9
 a9:=Tryz.isAgg9
 z9:=Tryz.sizeOf9
 v9:=Tryz.zeroValue9
 t20:=Tryz.underlying20
 a20:=Tryz.isAgg20
 z20:=Tryz.sizeOf20
 v20:=Tryz.zeroValue20
 t37:=Tryz.underlying81
 a37:=Tryz.isAgg81
 z37:=Tryz.sizeOf81
 v37:=Tryz.zeroValue81
 t46:=Tryz.underlying154
 a46:=Tryz.isAgg154
 z46:=Tryz.sizeOf154
 v46:=Tryz.zeroValue154
 t51:=Tryz.underlying54
 a51:=Tryz.isAgg54
 z51:=Tryz.sizeOf54
 v51:=Tryz.zeroValue54
 t53:=Tryz.underlying77
 a53:=Tryz.isAgg77
 z53:=Tryz.sizeOf77
 v53:=Tryz.zeroValue77
 t171:=Tryz.underlying173
 a171:=Tryz.isAgg173
 z171:=Tryz.sizeOf173
 v171:=Tryz.zeroValue173
 t173:=Tryz.underlying176
 a173:=Tryz.isAgg176
 z173:=Tryz.sizeOf176
 v173:=Tryz.zeroValue176
 t212:=Tryz.underlying189
 a212:=Tryz.isAgg189
 z212:=Tryz.sizeOf189
 v212:=Tryz.zeroValue189
 t213:=Tryz.underlying190
 a213:=Tryz.isAgg190
 z213:=Tryz.sizeOf190
 t232:=Tryz.underlying200
 a232:=Tryz.isAgg200
 z232:=Tryz.sizeOf200
 v232:=Tryz.zeroValue200
 t233:=Tryz.underlying201
 a233:=Tryz.isAgg201
 z233:=Tryz.sizeOf201
 v233:=Tryz.zeroValue201
 g17:=by kernel_rfl
 g18:=by kernel_rfl
 g19:=by kernel_rfl
 i0:=by kernel_rfl
 i2:=by kernel_rfl
 i3:=by kernel_rfl
 i4:=by kernel_rfl
 i5:=by kernel_rfl
 i9:=by kernel_rfl
 i20:=by kernel_rfl
 i37:=by kernel_rfl
 i46:=by kernel_rfl
 i51:=by kernel_rfl
 i53:=by kernel_rfl
 i171:=by kernel_rfl
 i173:=by kernel_rfl
 i212:=by kernel_rfl
 i232:=by kernel_rfl
 i233:=by kernel_rfl
 m17:=by kernel_rfl
 m18:=by kernel_rfl
 m19:=by kernel_rfl }
def Tryz.lays171_ren:Go.Shelf.Ren:=⟨fun|171=>70|243=>100|246=>112|283=>118|284=>119|285=>120|286=>121|129=>133|317=>134|318=>135|319=>136|320=>137|337=>144|338=>145|n=>n,fun|3=>3|9=>9|2=>2|4=>4|171=>173|0=>0|53=>77|37=>81|5=>5|173=>176|212=>189|51=>54|20=>20|213=>190|46=>154|232=>200|233=>201|n=>n,fun|17=>0|18=>1|19=>2|n=>n⟩
theorem Tryz.lays171:Go.Proofs.Lays.n171 Tryz.prog Tryz.lays171_ren:={
 mixed:=by kernel_rfl
 f129:=Tryz.func133.trans (congrArg some (by kernel_rfl))
 f171:=Tryz.func70.trans (congrArg some (by kernel_rfl))
 f243:=Tryz.func100.trans (congrArg some (by kernel_rfl))
 f246:=Tryz.func112.trans (congrArg some (by kernel_rfl))
 f283:=Tryz.func118.trans (congrArg some (by kernel_rfl))
 f284:=Tryz.func119.trans (congrArg some (by kernel_rfl))
 f285:=Tryz.func120.trans (congrArg some (by kernel_rfl))
 f286:=Tryz.func121.trans (congrArg some (by kernel_rfl))
 f317:=Tryz.func134.trans (congrArg some (by kernel_rfl))
 f318:=Tryz.func135.trans (congrArg some (by kernel_rfl))
 f319:=Tryz.func136.trans (congrArg some (by kernel_rfl))
 f320:=Tryz.func137.trans (congrArg some (by kernel_rfl))
 f337:=Tryz.func144.trans (congrArg some (by kernel_rfl))
 f338:=Tryz.func145.trans (congrArg some (by kernel_rfl))
 t0:=Tryz.underlying0
 a0:=Tryz.isAgg0
 z0:=Tryz.sizeOf0
 v0:=Tryz.zeroValue0
 t2:=Tryz.underlying2
 a2:=Tryz.isAgg2
 z2:=Tryz.sizeOf2
 v2:=Tryz.zeroValue2
 t3:=Tryz.underlying3
 a3:=Tryz.isAgg3
 z3:=Tryz.sizeOf3
 v3:=Tryz.zeroValue3
 t4:=Tryz.underlying4
 a4:=Tryz.isAgg4
 z4:=Tryz.sizeOf4
 v4:=Tryz.zeroValue4
 t5:=Tryz.underlying5
 a5:=Tryz.isAgg5
 z5:=Tryz.sizeOf5
 v5:=Tryz.zeroValue5
 t9:=Tryz.underlying9
 a9:=Tryz.isAgg9
 z9:=Tryz.sizeOf9
 v9:=Tryz.zeroValue9
 t20:=Tryz.underlying20
 a20:=Tryz.isAgg20
 z20:=Tryz.sizeOf20
 v20:=Tryz.zeroValue20
 t37:=Tryz.underlying81
 a37:=Tryz.isAgg81
 z37:=Tryz.sizeOf81
 v37:=Tryz.zeroValue81
 t46:=Tryz.underlying154
 a46:=Tryz.isAgg154
 z46:=Tryz.sizeOf154
 v46:=Tryz.zeroValue154
 t51:=Tryz.underlying54
 a51:=Tryz.isAgg54
 z51:=Tryz.sizeOf54
 v51:=Tryz.zeroValue54
 t53:=Tryz.underlying77
 a53:=Tryz.isAgg77
 z53:=Tryz.sizeOf77
 v53:=Tryz.zeroValue77
 t171:=Tryz.underlying173
 a171:=Tryz.isAgg173
 z171:=Tryz.sizeOf173
 v171:=Tryz.zeroValue173
 t173:=Tryz.underlying176
 a173:=Tryz.isAgg176
 z173:=Tryz.sizeOf176
 v173:=Tryz.zeroValue176
 t212:=Tryz.underlying189
 a212:=Tryz.isAgg189
 z212:=Tryz.sizeOf189
 v212:=Tryz.zeroValue189
 t213:=Tryz.underlying190
 a213:=Tryz.isAgg190
 z213:=Tryz.sizeOf190
 t232:=Tryz.underlying200
 a232:=Tryz.isAgg200
 z232:=Tryz.sizeOf200
 v232:=Tryz.zeroValue200
 t233:=Tryz.underlying201
 a233:=Tryz.isAgg201
 z233:=Tryz.sizeOf201
 v233:=Tryz.zeroValue201
 g17:=by kernel_rfl
 g18:=by kernel_rfl
 g19:=by kernel_rfl }
def Tryz.lays107_ren:Go.Shelf.Ren:=⟨fun|107=>42|108=>68|n=>n,fun|28=>60|3=>3|4=>4|0=>0|n=>n,fun|n=>n⟩
theorem Tryz.lays107:Go.Proofs.Lays.n107 Tryz.prog Tryz.lays107_ren:={
 mixed:=by kernel_rfl
 f107:=Tryz.func42.trans (congrArg some (by kernel_rfl))
 f108:=Tryz.func68.trans (congrArg some (by kernel_rfl))
 t0:=Tryz.underlying0
 a0:=Tryz.isAgg0
 z0:=Tryz.sizeOf0
 v0:=Tryz.zeroValue0
 t3:=Tryz.underlying3
 a3:=Tryz.isAgg3
 z3:=Tryz.sizeOf3
 v3:=Tryz.zeroValue3
 t4:=Tryz.underlying4
 a4:=Tryz.isAgg4
 z4:=Tryz.sizeOf4
 v4:=Tryz.zeroValue4
 t28:=Tryz.underlying60
 a28:=Tryz.isAgg60
 z28:=Tryz.sizeOf60
 v28:=Tryz.zeroValue60 }
def Tryz.lays110_ren:Go.Shelf.Ren:=⟨fun|110=>72|109=>102|n=>n,fun|31=>110|9=>9|4=>4|3=>3|0=>0|n=>n,fun|n=>n⟩
theorem Tryz.lays110:Go.Proofs.Lays.n110 Tryz.prog Tryz.lays110_ren:={
 mixed:=by kernel_rfl
 f109:=Tryz.func102.trans (congrArg some (by kernel_rfl))
 f110:=Tryz.func72.trans (congrArg some (by kernel_rfl))
 t0:=Tryz.underlying0
 a0:=Tryz.isAgg0
 z0:=Tryz.sizeOf0
 v0:=Tryz.zeroValue0
 t3:=Tryz.underlying3
 a3:=Tryz.isAgg3
 z3:=Tryz.sizeOf3
 v3:=Tryz.zeroValue3
 t4:=Tryz.underlying4
 a4:=Tryz.isAgg4
 z4:=Tryz.sizeOf4
 v4:=Tryz.zeroValue4
 t9:=Tryz.underlying9
 a9:=Tryz.isAgg9
 z9:=Tryz.sizeOf9
 v9:=Tryz.zeroValue9
 t31:=Tryz.underlying110
 a31:=Tryz.isAgg110
 z31:=Tryz.sizeOf110
 v31:=Tryz.zeroValue110 }
def Tryz.laysNm215_ren:Go.Shelf.Ren:=⟨fun|15=>46|n=>n,fun|22=>60|3=>3|4=>4|n=>n,fun|n=>n⟩
theorem Tryz.laysNm215:Go.Proofs.Lays2.n15 Tryz.prog Tryz.laysNm215_ren:={
 mixed:=by kernel_rfl
 f15:=Tryz.func46.trans (congrArg some (by kernel_rfl))
 t3:=Tryz.underlying3
 a3:=Tryz.isAgg3
 z3:=Tryz.sizeOf3
 v3:=Tryz.zeroValue3
 t4:=Tryz.underlying4
 a4:=Tryz.isAgg4
 z4:=Tryz.sizeOf4
 v4:=Tryz.zeroValue4
 t22:=Tryz.underlying60
 a22:=Tryz.isAgg60
 z22:=Tryz.sizeOf60
 v22:=Tryz.zeroValue60
 i3:=by kernel_rfl }
def Tryz.laysNm225_ren:Go.Shelf.Ren:=⟨fun|25=>80|31=>104|32=>105|37=>114|n=>n,fun|22=>60|3=>3|4=>4|40=>154|0=>0|n=>n,fun|n=>n⟩
theorem Tryz.laysNm225:Go.Proofs.Lays2.n25 Tryz.prog Tryz.laysNm225_ren:={
 mixed:=by kernel_rfl
 f25:=Tryz.func80.trans (congrArg some (by kernel_rfl))
 f31:=Tryz.func104.trans (congrArg some (by kernel_rfl))
 f32:=Tryz.func105.trans (congrArg some (by kernel_rfl))
 f37:=Tryz.func114.trans (congrArg some (by kernel_rfl))
 t0:=Tryz.underlying0
 a0:=Tryz.isAgg0
 z0:=Tryz.sizeOf0
 v0:=Tryz.zeroValue0
 t3:=Tryz.underlying3
 a3:=Tryz.isAgg3
 z3:=Tryz.sizeOf3
 v3:=Tryz.zeroValue3
 t4:=Tryz.underlying4
 a4:=Tryz.isAgg4
 z4:=Tryz.sizeOf4
 v4:=Tryz.zeroValue4
 t22:=Tryz.underlying60
 a22:=Tryz.isAgg60
 z22:=Tryz.sizeOf60
 v22:=Tryz.zeroValue60
 t40:=Tryz.underlying154
 a40:=Tryz.isAgg154
 z40:=Tryz.sizeOf154
 v40:=Tryz.zeroValue154 }
open Go.RowKit Go.Sort Go.Lib in
theorem Tryz.strconv_Itoa (n : Int) (h0 : -9223372036854775808 ≤ n) (h1 : n ≤ 9223372036854775807) (w : World) (htab : Lib.TabIs Tryz.prog w "internal/strconv.uint64pow10" .u64 Lib.pow10Tab) :
  Calls Tryz.prog 70 #[.int .i64 n] w fun e w'=>e = .returned (.string ⟨(Lib.itoa n).toArray⟩)∧∃ k os,w'=grow (w.drewN k) os:=Any.strconv_Itoa Tryz.laysM171 n h0 h1 w htab
open Go.RowKit Go.Sort Go.Lib in
theorem Tryz.strconv_Itoa_small (i:Nat) (hi:i < 100) (w:World) :
  Calls Tryz.prog 70 #[.int .i64 i] w fun e w'=>e = .returned (.string ⟨(Lib.decDigits i).toArray⟩)∧w'=w:=Any.strconv_Itoa_small Tryz.lays171 i hi w
open Go.Lib in
theorem Tryz.slices_Contains_int (b off n c:Nat) (zs:List Int) (x:Int) (w:World) (hz:n≤zs.length) (hbig:n≤9223372036854775807) (hc:∀ j,j < zs.length→w.cell? ⟨b,off+j,none⟩=some (.int .i64 (zs.getD j 0))) :
  Calls Tryz.prog 42 #[.slice (some ⟨b,off,none⟩) n c,.int .i64 x] w fun e w'=>e = .returned (.bool ((zs.take n).contains x))∧w'=w:=Any.slices_Contains_int Tryz.lays107 b off n c zs x w hz hbig hc
open Go.Lib in
theorem Tryz.slices_Contains_string (b off n c:Nat) (zs:List ByteArray) (x:ByteArray) (w:World) (hz:n≤zs.length) (hbig:n≤9223372036854775807) (hc:∀ j,j < zs.length→w.cell? ⟨b,off+j,none⟩=some (.string (zs.getD j ByteArray.empty))) :
  Calls Tryz.prog 72 #[.slice (some ⟨b,off,none⟩) n c,.string x] w fun e w'=>e = .returned (.bool (Lib.containsS (zs.take n) x))∧w'=w:=Any.slices_Contains_string Tryz.lays110 b off n c zs x w hz hbig hc
open Go.Lib in
theorem Tryz.slices_Contains_string_empty (a:Option Addr) (c:Nat) (x:ByteArray) (w:World) :
  Calls Tryz.prog 72 #[.slice a 0 c,.string x] w fun e w'=>e = .returned (.bool false)∧w'=w:=Any.slices_Contains_string_empty Tryz.lays110 a c x w
open Go.RowKit Go.Lib in
theorem Tryz.slices_Clone_int (b off n c:Nat) (zs:List Int) (w:World) (hz:n≤zs.length) (hbig:n * 8≤140737488355328) (hc:∀ j,j < zs.length→w.cell? ⟨b,off+j,none⟩=some (.int .i64 (zs.getD j 0))) :
  Calls Tryz.prog 46 #[.slice (some ⟨b,off,none⟩) n c] w fun e w'=>∃ v',e = .returned v'∧w'.ownsRow w.heap.size 3 1 v' n ((zs.take n).map (Value.int .i64))∧v' ≠ .slice none 0 0∧Below w.heap.size w w':=Any.slices_Clone_int Tryz.laysNm215 b off n c zs w hz hbig hc
open Go.RowKit Go.Lib in
theorem Tryz.slices_BinarySearch_int (b off n c:Nat) (zs:List Int) (x:Int) (w:World) (hz:n≤zs.length) (hbig:n < 4611686018427387904) (hc:∀ j,j < zs.length→w.cell? ⟨b,off+j,none⟩=some (.int .i64 (zs.getD j 0))) (hs:(zs.take n).Pairwise (· ≤ ·)) :
  Calls Tryz.prog 80 #[.slice (some ⟨b,off,none⟩) n c,.int .i64 x] w fun e w'=>e = .returned (.tuple #[.int .i64 ((zs.take n).countP (· < x):Nat),.bool ((zs.take n).contains x)])∧∃ q,w'=w.drewN q:=Any.slices_BinarySearch_int Tryz.laysNm225 b off n c zs x w hz hbig hc hs
end Go.Proofs
end

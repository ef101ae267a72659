/- In one text: Rows of records: what lies in them, and the calls that make and ask for bytes, of any kind. Rows of records of a call's own. The body of records: the walk of record.Put. The body of records as the document says: the walk of the reference's Body. What was put is read as it was, and what is read is put as those bytes. What was put is got, and what is got is put: the words that the layers above use. Whether records are few and small, and whether records are the same: the walks of the reference's Few and Same. The records of a body: the walk of record.Get. The records of a body as the document says: the walk of the reference's Records. -/
import Derived.Test.YtbhoknnjilidnaaGreatDoorG05
import Derived.Test.YtbhoknnjilidnaaGreatDoorG06
import Derived.Test.YtbhoknnjilidnaaGreatDoorG11
import Derived.Test.YtbhoknnjilidnaaGreatDoorG02
import Derived.Test.YtbhoknnjilidnaaGreatDoorG01
import Derived.Test.YtbhoknnjilidnaaGreatDoorG15
import Derived.Test.YtbhoknnjilidnaaGreatDoorG16
set_option linter.unusedSimpArgs false
set_option linter.unusedVariables false
set_option maxHeartbeats 4000000
set_option maxRecDepth 100000
namespace Go.Proofs.YtbhoknnjilidnaaGreatDoor.Rec
open Go.Proofs.YtbhoknnjilidnaaGreatDoor.Mem Go.Proofs.YtbhoknnjilidnaaGreatDoor.Pack
open Go.ChangeShapes Go.WideShapes Go.ChangeAt Go.RowKit
theorem rput_any (r:Rcd) (hm:May r) (hi:Is r) (v:Value) (len:Nat) (xs:List Int) (base:Nat) (w:World)
  (hown:w.ownsRow base 5 1 v len (cellsOf xs)) (hb:base≤w.heap.size) (hl:len≤1000000):Calls Tryz.prog 62 #[v,rv r] w fun e w'=>Puts base w xs len r e w':=by
 have hk:r.kind=1∨r.kind=2∨r.kind=3∨r.kind=4∨r.kind=5∨r.kind=6∨r.kind=7:=by have h1:=hm.1;have h2:=hm.2.1;omega
 rcases hk with h|h|h|h|h|h|h
 ·exact rput_1 r h hm hi v len xs base w hown hb hl
 ·exact rput_2 r h hm hi v len xs base w hown hb hl
 ·exact rput_3 r h hm hi v len xs base w hown hb hl
 ·exact rput_4 r h hm hi v len xs base w hown hb hl
 ·exact rput_5 r h hm hi v len xs base w hown hb hl
 ·exact rput_6 r h hm hi v len xs base w hown hb hl
 ·exact rput_7 r h hm hi v len xs base w hown hb hl
theorem rbytes_any (r:Rcd) (hm:May r) (hi:Is r) (v:Value) (len:Nat) (xs:List Int) (base:Nat) (w:World)
  (hown:w.ownsRow base 5 1 v len (cellsOf xs)) (hb:base≤w.heap.size) (hl:len≤1000000000):Calls Tryz.prog 58 #[v,rv r] w fun e w'=>Puts base w xs len r e w':=by
 have hk:r.kind=1∨r.kind=2∨r.kind=3∨r.kind=4∨r.kind=5∨r.kind=6∨r.kind=7:=by have h1:=hm.1;have h2:=hm.2.1;omega
 rcases hk with h|h|h|h|h|h|h
 ·exact rbytes_1 r h hm hi v len xs base w hown hb hl
 ·exact rbytes_2 r h hm hi v len xs base w hown hb hl
 ·exact rbytes_3 r h hm hi v len xs base w hown hb hl
 ·exact rbytes_4 r h hm hi v len xs base w hown hb hl
 ·exact rbytes_5 r h hm hi v len xs base w hown hb hl
 ·exact rbytes_6 r h hm hi v len xs base w hown hb hl
 ·exact rbytes_7 r h hm hi v len xs base w hown hb hl
theorem text_length (s:ByteArray):(text s).length=2+s.size:=by simp [text,put_length,strBytes_length]
theorem more_le {r:Rcd} (hm:May r):(more r).length≤1084:=by
 have hf:=hm.2.2.2.2.2.2
 unfold fits keyMay at hf
 unfold more
 split
 ·simp [put_length]
 ·rename_i h1
  rw [if_neg h1] at hf
  split
  ·rename_i h3
   rw [if_pos h3] at hf
   simp [put_length,text_length];omega
  ·rename_i h3
   rw [if_neg h3] at hf
   split
   ·rename_i h4
    rw [if_pos h4] at hf
    simp [put_length,text_length];omega
   ·split
    ·simp [put_length]
    ·split
     ·simp [put_length]
     ·simp
theorem bytesOf_len {r:Rcd} (hm:May r):6≤(bytesOf r).length∧(bytesOf r).length≤1090:=by
 have h:=more_le hm
 simp only [bytesOf,List.length_append,put_length]
 omega
theorem text_bytes (s:ByteArray):Bytes (text s):=bytes_append (put_bytes _ _) (strBytes_bytes s)
theorem bytesOf_bytes (r:Rcd):Bytes (bytesOf r):=by
 refine bytes_append (put_bytes _ _) (bytes_append (put_bytes _ _) (bytes_append (put_bytes _ _) ?_))
 unfold more
 split
 ·exact bytes_append (put_bytes _ _) (bytes_append (put_bytes _ _) (bytes_append (put_bytes _ _) (bytes_append (put_bytes _ _) (put_bytes _ _))))
 ·split
  ·exact bytes_append (put_bytes _ _) (bytes_append (put_bytes _ _) (bytes_append (text_bytes _) (text_bytes _)))
  ·split
   ·exact bytes_append (put_bytes _ _) (text_bytes _)
   ·split
    ·exact bytes_append (put_bytes _ _) (bytes_append (put_bytes _ _) (put_bytes _ _))
    ·split
     ·exact put_bytes _ _
     ·exact bytes_nil
theorem body_bytes (l:List Rcd):Bytes (body l):=by
 intro z hz
 obtain ⟨r,_,hr⟩:=List.mem_flatMap.1 hz
 exact bytesOf_bytes r z hr
theorem body_snoc (l:List Rcd) (k:Nat) (h:k < l.length):body (l.take (k+1))=body (l.take k)++bytesOf l[k]:=by
 unfold body
 rw [List.take_succ_eq_append_getElem h,List.flatMap_append]
 simp
theorem body_take_le (l:List Rcd) (k:Nat):(body (l.take k)).length≤(body l).length:=by
 conv=>rhs;rw [← List.take_append_drop k l]
 unfold body
 rw [List.flatMap_append,List.length_append]
 omega
def Recs (w:World) (a:Option Addr) (l:List Rcd):Prop :=
 (∀ r ∈ l,Is r)∧(0 < l.length→∃ b off,a=some ⟨b,off,none⟩∧b < w.heap.size∧∀ i (h:i < l.length) j u,(cells l[i])[j]?=some u→w.cell? ⟨b,off+i * 14+j,none⟩=some u)
theorem Recs.but {S:Nat→Prop} {w w':World} {a:Option Addr} {l:List Rcd} (h:Recs w a l) (hb:But S w w') (hs:∀ p,a=some p→¬ S p.block):Recs w' a l:=by
 refine ⟨h.1,fun hn=>?_⟩
 obtain ⟨b,off,rfl,hlt,hc⟩:=h.2 hn
 exact ⟨b,off,rfl,Nat.lt_of_lt_of_le hlt hb.size,fun i hi j u hu=>(hb.cell (p:=⟨b,off+i * 14+j,none⟩) hlt (hs ⟨b,off,none⟩ rfl)).trans (hc i hi j u hu)⟩
theorem Recs.below {w w':World} {a:Option Addr} {l:List Rcd} (h:Recs w a l) (hb:Below w.heap.size w w'):Recs w' a l:=h.but (S:=fun _=>False) (But.of_new hb) (fun _ _ e=>e)
theorem Recs.nil (w:World) (a:Option Addr):Recs w a []:=⟨fun _ h=>absurd h List.not_mem_nil,fun h=>absurd h (by simp)⟩
end Go.Proofs.YtbhoknnjilidnaaGreatDoor.Rec
namespace Go.Proofs.YtbhoknnjilidnaaGreatDoor.Rec
open Go.Proofs.YtbhoknnjilidnaaGreatDoor.Mem Go.Proofs.YtbhoknnjilidnaaGreatDoor.Pack
open Go.ChangeShapes Go.WideShapes Go.ChangeAt Go.RowKit
theorem rec_info:(Tryz.prog.info? 79).map (fun i=>(i.zero,i.size,i.bytes))=some (some (.agg #[.int .i64 0,.int .i64 0,.int .u32 0,.int .i64 0,.int .i64 0,.int .i64 0,.int .u64 0,.int .u32 0,.int .i64 0,.int .u64 0,.string ⟨#[]⟩,.string ⟨#[]⟩,.int .u64 0,.int .u64 0]),14,128):=by kernel_rfl
def rcl (l:List Rcd):List Value:=l.flatMap fun r=>(cells r).toList
theorem rcl_cons (r:Rcd) (l:List Rcd):rcl (r :: l)=(cells r).toList++rcl l:=rfl
theorem rcl_snoc (l:List Rcd) (r:Rcd):rcl (l++[r])=rcl l++(cells r).toList:=by
 unfold rcl
 rw [List.flatMap_append]
 simp
theorem rcl_get (l:List Rcd) (i j:Nat) (hi:i < l.length) (hj:j < 14):(rcl l)[i * 14+j]?=(cells l[i])[j]?:=by
 induction l generalizing i with
 | nil=>simp at hi
 | cons r l ih =>
  have hl:(cells r).toList.length=14:=by simp [cells]
  rw [rcl_cons]
  rcases i with _|i
  ·rw [Nat.zero_mul,Nat.zero_add,List.getElem?_append_left (by omega)]
   simp
  ·rw [List.getElem?_append_right (by omega),hl,show (i+1) * 14+j - 14=i * 14+j by omega,ih i (by simpa using hi)]
   simp
theorem recs_of_own {w:World} {base:Nat} {v:Value} {l:List Rcd} (h:w.ownsRow base 79 14 v l.length (rcl l)) (hi:∀ r ∈ l,Is r) :
  ∃ a cap,v = .slice a l.length cap∧Recs w a l∧cap≤maxLen:=by
 rcases h.2 with ⟨hv,hn⟩|⟨g,cap,cur,hv,hg,hh,hnc,hcm,hcs,ht⟩
 ·have e:=List.eq_nil_of_length_eq_zero hn
  subst e
  exact ⟨none,0,hv,Recs.nil _ _,Nat.zero_le _⟩
 ·refine ⟨_,cap,hv,⟨hi,fun _=>⟨g,0,rfl,(h.lt g (by rw [hv];rfl)).2,fun i hil j u hu=>?_⟩⟩,hcm⟩
  have hj:j < 14:=(Array.getElem?_eq_some_iff.1 hu).1
  have h1:=rcl_get l i j hil hj
  rw [hu] at h1
  have hsub:World.ownsRow w base 79 14 (.slice (some ⟨g,0,none⟩) l.length cap) l.length (rcl l):=by rw [← hv];exact h
  have h2:=hsub.cellAt (i * 14+j) (by omega)
  rw [Nat.zero_add,h2,h1]
theorem sees_rec (w:World) (cs:Array Value) (hcs:cs.size=14) (e:TypeId) (fr:Nat × Nat) (g:Nat) (hg:g=w.heap.size):Sees (w.alloc (.cells cs e fr)) 14 (.slice (some ⟨g,0,none⟩) 1 1) 1 cs.toList:=by
 subst hg
 refine .inr ⟨_,_,rfl,by simp [hcs],fun j x hx=>?_⟩
 refine ⟨by simp,?_⟩
 rw [add_none,Nat.zero_add,World.cell?_alloc_mark]
 simpa using hx
theorem cells_one (r:Rcd):∀ u ∈ (cells r).toList,u.oneCell'=true:=by
 simp [cells,Value.oneCell']
theorem txt_size {P:Pos} (h:Bytes P.zs):P.txt.size≤65535:=by
 have h1:textLen P.zs < 65536:=num_got2_lt h
 have h2:(textGot P.zs).length≤textLen P.zs:=got_length_le _ _
 have h3:P.txt.size=(textGot P.zs).length:=by
  show (strOfNums (textGot P.zs)).data.size=_
  rw [← Array.length_toList,strOfNums_data]
  simp
 omega
theorem is_of {k b g:Nat} {q1 q2 q3:Int} {s1 s2:Nat} {ri:Int} {se:Nat} {ke va:ByteArray} {ve ex:Nat} (hk:k < 256) (hb:b < 256) (hg:g < 4294967296) (h1:s1 < 18446744073709551616) (h2:s2 < 4294967296) (h3:0≤ri∧ri < 256)
  (h4:se < 18446744073709551616) (h5:ke.size≤65535) (h6:va.size≤65535) (h7:ve < 18446744073709551616) (h8:ex < 18446744073709551616):Is ⟨(k:Int),(b:Int),g,q1,q2,q3,s1,s2,ri,se,ke,va,ve,ex⟩:=by
 refine ⟨?_,?_,hg,h1,h2,?_,h4,?_,?_,h7,h8⟩
 ·simp only;omega
 ·simp only;omega
 ·simp only;omega
 ·simp only;omega
 ·simp only;omega
theorem z64:(0:Nat) < 18446744073709551616:=by decide
theorem z32:(0:Nat) < 4294967296:=by decide
theorem z8:(0:Int)≤0∧(0:Int) < 256:=by decide
theorem zs:nothing.size≤65535:=by decide
theorem first_is {P:Pos} (hB:Bytes P.zs):Is (first P):=by
 have h1:=num1_lt hB
 have b1:=skip_bytes hB 1
 have h2:=num1_lt b1
 have b2:=skip_bytes b1 1
 have h3:=num4_lt b2
 have bq:=skip_bytes b2 4
 have q8:=skip_bytes bq 8
 have q88:=skip_bytes q8 8
 have q888:=skip_bytes q88 8
 have q8888:=skip_bytes q888 8
 have q4:=skip_bytes bq 4
 have q41:=skip_bytes q4 1
 unfold first
 simp only
 split
 ·exact is_of h1 h2 h3 (num8_lt q888) (num4_lt q8888) z8 z64 zs zs z64 z64
 ·split
  ·exact is_of h1 h2 h3 z64 z32 z8 z64 (txt_size q88) (txt_size (past_bytes q88)) (num8_lt bq) (num8_lt q8)
  ·split
   ·exact is_of h1 h2 h3 z64 z32 z8 z64 (txt_size q8) zs (num8_lt bq) z64
   ·split
    ·exact is_of h1 h2 h3 z64 (num4_lt bq) ⟨Int.natCast_nonneg _,Int.ofNat_lt.2 (num1_lt q4)⟩ (num8_lt q41) zs zs z64 z64
    ·split
     ·exact is_of h1 h2 h3 z64 (num4_lt bq) z8 z64 zs zs z64 z64
     ·exact is_of h1 h2 h3 z64 z32 z8 z64 zs zs z64 z64
end Go.Proofs.YtbhoknnjilidnaaGreatDoor.Rec
namespace Go.Proofs.YtbhoknnjilidnaaGreatDoor.Rec
open Go.Proofs.YtbhoknnjilidnaaGreatDoor.Mem Go.Proofs.YtbhoknnjilidnaaGreatDoor.Pack Go.Proofs.YtbhoknnjilidnaaGreatDoor.Err
open Go.ChangeShapes Go.WideShapes Go.ChangeAt Go.RowKit
def okBody (l:List Rcd):Prop:=0 < l.length∧(∀ r ∈ l,May r)∧(body l).length≤20000
def PutSays (w:World) (l:List Rcd) (e:Ending) (w':World):Prop :=
 Below w.heap.size w w'∧((okBody l∧∃ v,e = .returned (.tuple #[v,.nilIface])∧w'.ownsRow w.heap.size 5 1 v (body l).length (cellsOf (body l))) ∨
  (¬ okBody l∧e = .returned (.tuple #[.slice none 0 0,.iface 33 (.int .i64 1)])))
theorem cells_at {w:World} {b o:Nat} {r:Rcd} (h:∀ j u,(cells r)[j]?=some u→w.cell? ⟨b,o+j,none⟩=some u):w.cell? ⟨b,o,none⟩=some (.int .i64 r.kind)∧w.cell? ⟨b,o+1,none⟩=some (.int .i64 r.bucket)∧w.cell? ⟨b,o+2,none⟩=some (.int .u32 (r.gen:Int))∧w.cell? ⟨b,o+3,none⟩=some (.int .i64 r.keys)∧w.cell? ⟨b,o+4,none⟩=some (.int .i64 r.bytes)∧w.cell? ⟨b,o+5,none⟩=some (.int .i64 r.budget)∧w.cell? ⟨b,o+6,none⟩=some (.int .u64 (r.seq:Int))∧w.cell? ⟨b,o+7,none⟩=some (.int .u32 (r.serial:Int))∧w.cell? ⟨b,o+8,none⟩=some (.int .i64 r.rights)∧w.cell? ⟨b,o+9,none⟩=some (.int .u64 (r.secret:Int))∧w.cell? ⟨b,o+10,none⟩=some (.string r.key)∧w.cell? ⟨b,o+11,none⟩=some (.string r.val)∧w.cell? ⟨b,o+12,none⟩=some (.int .u64 (r.version:Int))∧w.cell? ⟨b,o+13,none⟩=some (.int .u64 (r.expiry:Int)) :=
 ⟨h 0 _ rfl,h 1 _ rfl,h 2 _ rfl,h 3 _ rfl,h 4 _ rfl,h 5 _ rfl,h 6 _ rfl,h 7 _ rfl,h 8 _ rfl,h 9 _ rfl,h 10 _ rfl,h 11 _ rfl,h 12 _ rfl,h 13 _ rfl⟩
theorem may_take {l:List Rcd} {k:Nat} (h:k < l.length) (hm:∀ r ∈ l.take k,May r) (hk:May l[k]):∀ r ∈ l.take (k+1),May r:=by
 intro r hr
 rw [List.take_succ_eq_append_getElem h] at hr
 rcases List.mem_append.1 hr with h1|h1
 ·exact hm r h1
 ·rw [List.mem_singleton.1 h1];exact hk
theorem recPut_nil (a:Option Addr) (cap:Nat) (w:World):Calls Tryz.prog 35 #[.slice a 0 cap] w fun e w'=>PutSays w [] e w':=by
 go_enter Tryz.func35,Tryz.ntmps35
 go_wp2
 go_ret2
 exact ⟨Below.refl _ _,.inr ⟨fun h=>absurd h.1 (by simp),rfl⟩⟩
theorem recPut_some (a:Option Addr) (cap:Nat) (l:List Rcd) (w:World) (h:Recs w a l) (h0:0 < l.length) (hl:l.length≤1000000000) :
  Calls Tryz.prog 35 #[.slice a l.length cap] w fun e w'=>PutSays w l e w':=by
 obtain ⟨hi,b,off,rfl,hblt,hc⟩:(∀ r ∈ l,Is r)∧∃ b off,a=some ⟨b,off,none⟩∧b < w.heap.size∧∀ i (h:i < l.length) j u,(cells l[i])[j]?=some u→w.cell? ⟨b,off+i * 14+j,none⟩=some u:=⟨h.1,h.2 h0⟩
 have hn0:((l.length:Int) == 0)=false:=beq_eq_false_iff_ne.2 (by omega)
 have HI:=Lib.hid hi
 have HC:=Lib.hid hc
 clear h hi hc
 go_enter Tryz.func35,Tryz.ntmps35
 go_wp2
 go_loopw [4,6,13] (fun v p i wr=>∃ (k:Nat) (va:Option Addr) (n vc:Nat),k≤l.length∧i = .int .i64 (k:Int)∧v = .slice va n vc∧n=(body (l.take k)).length∧wr.ownsRow w.heap.size 5 1 (.slice va n vc) n (cellsOf (body (l.take k)))∧(∀ r ∈ l.take k,May r)∧n≤20000∧Below w.heap.size w wr) (fun _ _ i _=>l.length - (intOf i).toNat)
 case atStart=>exact ⟨0,none,0,0,Nat.zero_le _,rfl,rfl,rfl,World.ownsRow_nil _ _ _ _,fun r hr=>absurd hr List.not_mem_nil,Nat.zero_le _,Below.refl _ _⟩
 case round =>
  obtain ⟨k,va,n,vc,hk,rfl,rfl,hn,ho,hmt,hlen,hb⟩:=hrel
  by_cases hlt:k < l.length
  ·have HCK:=Lib.hid (fun j u (hu:(cells l[k])[j]?=some u)=>(hb.cell (p:=⟨b,off+k * 14+j,none⟩) hblt).trans (HC.out k hlt j u hu))
   have his:=HI.out l[k] (List.getElem_mem hlt)
   have HREST:=Lib.hid (And.intro hn (And.intro ho (And.intro hmt hb)))
   obtain ⟨r,hr⟩:∃ r,r=l[k]:=⟨_,rfl⟩
   rw [← hr] at HCK his
   have HR:=Lib.hid hr
   have hm:=fun w=>may_any r w
   have hp:=fun hmr v len xs base w hown hb hl=>rput_any r hmr his v len xs base w hown hb hl
   obtain ⟨e0,e1,e2,e3,e4,e5,e6,e7,e8,e9,e10,e11,e12,e13⟩:=cells_at HCK.out
   simp only [rv,cells] at hm hp
   clear hn ho hmt hr
   have HP:=Lib.hid hp
   have HM:=Lib.hid hm
   clear hm hp
   go_wp2_with fail
   clear e0 e1 e2 e3 e4 e5 e6 e7 e8 e9 e10 e11 e12 e13
   refine (HM.out _).mono ?_
   rintro e w1 ⟨rfl,hb1⟩
   have hbox1:Box w1 wr.heap.size (cells r):=(hb1.block wr.heap.size (by simp)).trans (heap_new wr _)
   simp only [cells] at hbox1
   obtain ⟨hn,ho,hmt,-⟩:=HREST.out
   have ho1:=ownsRow_but (ownsRow_alloc ho (.cells (cells r) 79)) (But.of_new hb1 (S:=fun _=>False)) (fun _ _ e=>e)
   have hbw1:Below w.heap.size w w1:=(hb.alloc hb.size _).trans (hb1.mono (by have:=hb.size;simp;omega))
   have HO:=Lib.hid (And.intro ho1 hbw1)
   have HBX:=Lib.hid (show _=_ from hbox1)
   clear hb1 hbox1 ho1 hbw1 ho
   by_cases hmr:May r
   ·rw [decide_eq_true hmr]
    have hmt1:=may_take hlt hmt (HR.out ▸ hmr)
    have HMT:=Lib.hid hmt1
    have HNN:=Lib.hid hn
    clear hmt1 hmt hn
    go_wp2_with (refine wpList_load_row rfl 79 _ rfl wr.heap.size rfl 79 _ (0,0) _ HBX.out Tryz.underlying79 rfl rec_size ?_)
    refine (HP.out hmr _ _ _ w.heap.size w1 HO.out.1 HO.out.2.size (by omega)).mono ?_
    rintro e w2 ⟨v2,rfl,ho2,hb2⟩
    have hby:Bytes (body (l.take k)++bytesOf r):=bytes_append (body_bytes _) (bytesOf_bytes r)
    obtain ⟨a2,c2,rfl,hr2,hl2,-⟩:=own_shape ho2 hby
    have hbl:=bytesOf_len hmr
    obtain ⟨m,hm⟩:∃ m,m=n+(bytesOf r).length:=⟨_,rfl⟩
    rw [← hm] at ho2 hl2 ⊢
    have hbody:body (l.take (k+1))=body (l.take k)++bytesOf r:=by rw [body_snoc l k hlt,← HR.out]
    have HO2:=Lib.hid (And.intro ho2 (And.intro (HO.out.2.trans hb2) (And.intro hbody hl2)))
    have HM2:=Lib.hid hm
    have hm2:m≤21090:=by omega
    clear ho2 hb2 hby hr2 hl2 hbl hm hbody HO HBX
    by_cases hbig:20000 < m
    ·go_wp2_with fail
     go_ret2
     refine ⟨HO2.out.2.1,.inr ⟨fun hok=>?_,rfl⟩⟩
     have h3:=body_take_le l (k+1)
     have h4:=hok.2.2
     have h5:(body (l.take (k+1))).length=m:=by rw [HO2.out.2.2.1];exact HO2.out.2.2.2.symm
     omega
    ·go_wp2_with fail
     go_roundw
     case rel=>exact ⟨k+1,a2,m,c2,by omega,by go_num,rfl,by rw [HO2.out.2.2.1];exact HO2.out.2.2.2,by rw [HO2.out.2.2.1];exact HO2.out.1,HMT.out,by omega,HO2.out.2.1⟩
     case measure=>simp [intOf];omega
   ·rw [decide_eq_false hmr]
    have HBW:=Lib.hid HO.out.2
    have HNO:=Lib.hid (show ¬ okBody l from fun hok=>hmr (hok.2.1 r (by rw [HR.out];exact List.getElem_mem hlt)))
    clear hmt hn HO
    go_wp2_with fail
    go_ret2
    exact ⟨HBW.out,.inr ⟨HNO.out,rfl⟩⟩
  ·have hkl:k=l.length:=by omega
   have hall:l.take k=l:=List.take_of_length_le (by omega)
   rw [hall] at hn ho hmt
   have HF:=Lib.hid (And.intro hn (And.intro ho (And.intro hmt hb)))
   subst hkl
   clear hn ho hmt hall hb hlt hk HC HI
   go_wp2_with fail
   go_ret2
   obtain ⟨hn,ho,hmt,hb⟩:=HF.out
   exact ⟨hb,.inl ⟨⟨h0,hmt,by omega⟩,_,rfl,by rw [← hn];exact ho⟩⟩
theorem recPut_any (a:Option Addr) (cap:Nat) (l:List Rcd) (w:World) (h:Recs w a l) (hl:l.length≤1000000000) :
  Calls Tryz.prog 35 #[.slice a l.length cap] w fun e w'=>PutSays w l e w':=by
 rcases Nat.eq_zero_or_pos l.length with h0|h0
 ·have e:=List.eq_nil_of_length_eq_zero h0
  subst e
  exact recPut_nil a cap w
 ·exact recPut_some a cap l w h h0 hl
end Go.Proofs.YtbhoknnjilidnaaGreatDoor.Rec
namespace Go.Proofs.YtbhoknnjilidnaaGreatDoor.Rec
open Go.Proofs.YtbhoknnjilidnaaGreatDoor.Mem Go.Proofs.YtbhoknnjilidnaaGreatDoor.Pack Go.Proofs.YtbhoknnjilidnaaGreatDoor.Err
open Go.ChangeShapes Go.WideShapes Go.ChangeAt Go.RowKit
def BodySays (w:World) (l:List Rcd) (e:Ending) (w':World):Prop :=
 Below w.heap.size w w'∧((okBody l∧∃ v,e = .returned (.tuple #[v,.bool true])∧w'.ownsRow w.heap.size 5 1 v (body l).length (cellsOf (body l))) ∨
  (¬ okBody l∧∃ v,e = .returned (.tuple #[v,.bool false])))
theorem body_le {l:List Rcd} (h:∀ r ∈ l,May r):6 * l.length≤(body l).length∧(body l).length≤1090 * l.length:=by
 induction l with
 | nil=>simp [body]
 | cons r l ih =>
  have h1:=bytesOf_len (h r List.mem_cons_self)
  have h2:=ih (fun x hx=>h x (List.mem_cons_of_mem _ hx))
  have e:body (r :: l)=bytesOf r++body l:=rfl
  rw [e,List.length_append,List.length_cons]
  omega
theorem refBody_any (a:Option Addr) (cap:Nat) (l:List Rcd) (w:World) (h:Recs w a l) (hl:l.length≤900000) :
  Calls Tryz.prog 28 #[.slice a l.length cap] w fun e w'=>BodySays w l e w':=by
 have HR0:=Lib.hid h
 clear h
 go_enter Tryz.func28,Tryz.ntmps28
 go_wp2
 go_loopw [4,5,6] (fun v i p wr=>∃ (k:Nat) (va:Option Addr) (n vc:Nat),k≤l.length∧i = .int .i64 (k:Int)∧v = .slice va n vc∧n=(body (l.take k)).length∧wr.ownsRow w.heap.size 5 1 (.slice va n vc) n (cellsOf (body (l.take k)))∧(∀ r ∈ l.take k,May r)∧Below w.heap.size w wr) (fun _ i _ _=>l.length - (intOf i).toNat)
 case atStart=>exact ⟨0,none,0,0,Nat.zero_le _,rfl,rfl,rfl,World.ownsRow_nil _ _ _ _,fun r hr=>absurd hr List.not_mem_nil,Below.refl _ _⟩
 case round =>
  obtain ⟨k,va,n,vc,hk,rfl,rfl,hn,ho,hmt,hb⟩:=hrel
  have hnle:n≤1090 * l.length:=by
   rw [hn]
   have h1:=(body_le hmt).2
   have h2:(l.take k).length≤l.length:=by simp;omega
   omega
  by_cases hlt:k < l.length
  ·obtain ⟨hi,b,off,rfl,hblt,hc⟩:(∀ r ∈ l,Is r)∧∃ b off,a=some ⟨b,off,none⟩∧b < w.heap.size∧∀ i (h:i < l.length) j u,(cells l[i])[j]?=some u→w.cell? ⟨b,off+i * 14+j,none⟩=some u:=⟨HR0.out.1,HR0.out.2 (by omega)⟩
   have HCK:=Lib.hid (fun j u (hu:(cells l[k])[j]?=some u)=>(hb.cell (p:=⟨b,off+k * 14+j,none⟩) hblt).trans (hc k hlt j u hu))
   have HCW:=Lib.hid (fun j u (hu:(cells l[k])[j]?=some u)=>hc k hlt j u hu)
   have his:=hi l[k] (List.getElem_mem hlt)
   have HREST:=Lib.hid (And.intro hn (And.intro ho (And.intro hmt hb)))
   obtain ⟨r,hr⟩:∃ r,r=l[k]:=⟨_,rfl⟩
   rw [← hr] at HCK HCW his
   have HR:=Lib.hid hr
   have hm:=fun w=>refMay_any r w
   have hp:=fun hmr v len xs base w hown hb hl=>rbytes_any r hmr his v len xs base w hown hb hl
   obtain ⟨e0,e1,e2,e3,e4,e5,e6,e7,e8,e9,e10,e11,e12,e13⟩:=cells_at HCK.out
   simp only [rv,cells] at hm hp
   clear hn ho hmt hr hi hc
   have HP:=Lib.hid hp
   have HM:=Lib.hid hm
   clear hm hp
   go_wp2_with fail
   clear e0 e1 e2 e3 e4 e5 e6 e7 e8 e9 e10 e11 e12 e13
   refine (HM.out _).mono ?_
   rintro e w1 ⟨rfl,hb1⟩
   obtain ⟨hn,ho,hmt,-⟩:=HREST.out
   have ho1:=ownsRow_but ho (But.of_new hb1 (S:=fun _=>False)) (fun _ _ e=>e)
   have hbw1:Below w.heap.size w w1:=hb.trans (hb1.mono hb.size)
   have HC1:=Lib.hid (fun j u (hu:(cells r)[j]?=some u)=>(hbw1.cell (p:=⟨b,off+k * 14+j,none⟩) hblt).trans (HCW.out j u hu))
   have HO:=Lib.hid (And.intro ho1 hbw1)
   clear hb1 ho1 hbw1 ho
   by_cases hmr:May r
   ·rw [decide_eq_true hmr]
    have hmt1:=may_take hlt hmt (HR.out ▸ hmr)
    have HMT:=Lib.hid hmt1
    have HNN:=Lib.hid hn
    clear hmt1 hmt hn
    obtain ⟨e0,e1,e2,e3,e4,e5,e6,e7,e8,e9,e10,e11,e12,e13⟩:=cells_at HC1.out
    go_wp2_with fail
    clear e0 e1 e2 e3 e4 e5 e6 e7 e8 e9 e10 e11 e12 e13
    refine (HP.out hmr _ _ _ w.heap.size w1 HO.out.1 HO.out.2.size (by omega)).mono ?_
    rintro e w2 ⟨v2,rfl,ho2,hb2⟩
    have hby:Bytes (body (l.take k)++bytesOf r):=bytes_append (body_bytes _) (bytesOf_bytes r)
    obtain ⟨a2,c2,rfl,hr2,hl2,-⟩:=own_shape ho2 hby
    obtain ⟨m,hm⟩:∃ m,m=n+(bytesOf r).length:=⟨_,rfl⟩
    rw [← hm] at ho2 hl2 ⊢
    have hbody:body (l.take (k+1))=body (l.take k)++bytesOf r:=by rw [body_snoc l k hlt,← HR.out]
    have HO2:=Lib.hid (And.intro ho2 (And.intro (HO.out.2.trans hb2) (And.intro hbody hl2)))
    clear ho2 hb2 hby hr2 hl2 hm hbody HO
    go_wp2_with fail
    go_roundw
    case rel=>exact ⟨k+1,a2,m,c2,by omega,by go_num,rfl,by rw [HO2.out.2.2.1];exact HO2.out.2.2.2,by rw [HO2.out.2.2.1];exact HO2.out.1,HMT.out,HO2.out.2.1⟩
    case measure=>simp [intOf];omega
   ·rw [decide_eq_false hmr]
    have HBW:=Lib.hid HO.out.2
    have HNO:=Lib.hid (show ¬ okBody l from fun hok=>hmr (hok.2.1 r (by rw [HR.out];exact List.getElem_mem hlt)))
    clear hmt hn HO
    go_wp2_with fail
    go_ret2
    exact ⟨HBW.out,.inr ⟨HNO.out,_,rfl⟩⟩
  ·have hkl:k=l.length:=by omega
   have hall:l.take k=l:=List.take_of_length_le (by omega)
   rw [hall] at hn ho hmt
   have HF:=Lib.hid (And.intro hn (And.intro ho (And.intro hmt hb)))
   have h6:=(body_le hmt).1
   subst hkl
   rw [← hn] at h6
   clear hn ho hmt hall hb hlt hk
   by_cases h0:n=0
   ·have d0:decide ((0:Int) < (n:Int))=false:=decide_eq_false (by omega)
    go_wp2_with fail
    go_ret2
    obtain ⟨hn,ho,hmt,hb⟩:=HF.out
    exact ⟨hb,.inr ⟨fun hok=>by have:=hok.1;omega,_,rfl⟩⟩
   ·have hl0:0 < l.length:=by
     rcases Nat.eq_zero_or_pos l.length with h1|h1
     ·exfalso
      apply h0
      rw [HF.out.1,List.eq_nil_of_length_eq_zero h1]
      rfl
     ·exact h1
    have d0:decide ((0:Int) < (n:Int))=true:=decide_eq_true (by omega)
    by_cases hs:n≤20000
    ·have d1:decide ((n:Int)≤20000)=true:=decide_eq_true (by omega)
     go_wp2_with fail
     go_ret2
     obtain ⟨hn,ho,hmt,hb⟩:=HF.out
     exact ⟨hb,.inl ⟨⟨hl0,hmt,by omega⟩,_,rfl,by rw [← hn];exact ho⟩⟩
    ·have d1:decide ((n:Int)≤20000)=false:=decide_eq_false (by omega)
     go_wp2_with fail
     go_ret2
     obtain ⟨hn,ho,hmt,hb⟩:=HF.out
     exact ⟨hb,.inr ⟨fun hok=>by have:=hok.2.2;omega,_,rfl⟩⟩
end Go.Proofs.YtbhoknnjilidnaaGreatDoor.Rec
namespace Go.Proofs.YtbhoknnjilidnaaGreatDoor.Rec
open Go.Proofs.YtbhoknnjilidnaaGreatDoor.Mem Go.Proofs.YtbhoknnjilidnaaGreatDoor.Pack
open Go.RowKit
theorem skip_front (n k:Nat) (ys:List Int) (s:Bool):(⟨put n k++ys,s⟩:Pos).skip k=⟨ys,s⟩:=by
 unfold Pos.skip
 simp only
 rw [left_front _ (put_length _ _),short_front _ (put_length _ _)]
theorem num_front (n k:Nat) (ys:List Int) (s:Bool):(⟨put n k++ys,s⟩:Pos).num k=n % 256 ^ k:=by
 unfold Pos.num
 simp only
 rw [got_front _ (put_length _ _),num_put]
theorem text_app (t:ByteArray) (ys:List Int):text t++ys=put t.size 2++(strBytes t++ys):=by
 unfold text;rw [List.append_assoc]
theorem txt_front (t:ByteArray) (ht:t.size≤65535) (ys:List Int) (s:Bool):(⟨text t++ys,s⟩:Pos).txt=t:=by
 unfold Pos.txt
 simp only
 rw [text_app,textGot_front t ht,strOf_strBytes]
theorem past_front (t:ByteArray) (ht:t.size≤65535) (ys:List Int) (s:Bool):(⟨text t++ys,s⟩:Pos).past=⟨ys,s⟩:=by
 unfold Pos.past
 simp only
 rw [text_app,textLeft_front t ht,textShort_front t ht]
theorem sgn_small {n:Nat} (h:n≤1099511627776):sgn n=(n:Int):=by
 unfold sgn wrap64;omega
theorem mod1 {n:Nat} (h:n < 256):n % 256 ^ 1=n:=Nat.mod_eq_of_lt (by rw [Nat.pow_one];exact h)
theorem pow4:(256:Nat) ^ 4=4294967296:=by decide
theorem pow8:(256:Nat) ^ 8=18446744073709551616:=by decide
theorem mod4 {n:Nat} (h:n < 4294967296):n % 256 ^ 4=n:=Nat.mod_eq_of_lt (by rw [pow4];exact h)
theorem mod8 {n:Nat} (h:n < 18446744073709551616):n % 256 ^ 8=n:=Nat.mod_eq_of_lt (by rw [pow8];exact h)
theorem front_any (r:Rcd) (hm:May r) (hi:Is r) (ys:List Int):first ⟨bytesOf r++ys,false⟩=r∧behind ⟨bytesOf r++ys,false⟩=⟨ys,false⟩:=by
 obtain ⟨k,b,g,q1,q2,q3,s1,s2,ri,se,ke,va,ve,ex⟩:=r
 have hk1:1≤k:=hm.1
 have hk7:k≤7:=hm.2.1
 have hb0:0≤b:=hm.2.2.1
 have hb1:b < 64:=hm.2.2.2.1
 have hnm:=hm.2.2.2.2.2.1
 have hf:=hm.2.2.2.2.2.2
 have mg:=mod4 hi.gen
 have ms2:=mod4 hi.serial
 have ms1:=mod8 hi.seq
 have mse:=mod8 hi.secret
 have mve:=mod8 hi.version
 have mex:=mod8 hi.expiry
 have mb:=mod1 (n:=b.toNat) (by omega)
 have eb:((b.toNat:Nat):Int)=b:=Int.toNat_of_nonneg hb0
 simp only at mg ms1 ms2 mse mve mex
 have hk:k=1∨k=2∨k=3∨k=4∨k=5∨k=6∨k=7:=by omega
 clear hk1 hk7
 rcases hk with rfl|rfl|rfl|rfl|rfl|rfl|rfl
 ·obtain ⟨⟨p1,p2⟩,⟨p3,p4⟩,⟨p5,p6⟩⟩:(0≤q1∧q1≤1099511627776)∧(0≤q2∧q2≤1099511627776)∧(0≤q3∧q3≤1099511627776):=hf
  have a1:=mod8 (n:=q1.toNat) (by omega)
  have a2:=mod8 (n:=q2.toNat) (by omega)
  have a3:=mod8 (n:=q3.toNat) (by omega)
  have c1:sgn q1.toNat=q1:=(sgn_small (by omega)).trans (Int.toNat_of_nonneg p1)
  have c2:sgn q2.toNat=q2:=(sgn_small (by omega)).trans (Int.toNat_of_nonneg p3)
  have c3:sgn q3.toNat=q3:=(sgn_small (by omega)).trans (Int.toNat_of_nonneg p5)
  have e:bytesOf ⟨1,b,g,q1,q2,q3,s1,s2,ri,se,ke,va,ve,ex⟩++ys=put 1 1++(put b.toNat 1++(put g 4++(put q1.toNat 8++(put q2.toNat 8++(put q3.toNat 8++(put s1 8++(put s2 4++ys))))))):=by simp [bytesOf,more]
  rw [e]
  refine ⟨?_,?_⟩
  ·rw [hnm]
   unfold first
   simp only [skip_front,num_front]
   rw [if_pos (by decide),mb,mg,a1,a2,a3,ms1,ms2,c1,c2,c3,eb]
   rfl
  ·unfold behind
   simp only [skip_front,num_front]
   rw [if_pos (by decide)]
 ·clear hi
  have e:bytesOf ⟨2,b,g,q1,q2,q3,s1,s2,ri,se,ke,va,ve,ex⟩++ys=put 2 1++(put b.toNat 1++(put g 4++ys)):=by simp [bytesOf,more]
  rw [e]
  refine ⟨?_,?_⟩
  ·rw [hnm]
   unfold first
   simp only [skip_front,num_front]
   rw [if_neg (by decide),if_neg (by decide),if_neg (by decide),if_neg (by decide),if_neg (by decide),mb,mg,eb]
   rfl
  ·unfold behind
   simp only [skip_front,num_front]
   rw [if_neg (by decide),if_neg (by decide),if_neg (by decide),if_neg (by decide),if_neg (by decide)]
 ·clear hi
  obtain ⟨⟨p1,p2⟩,p3⟩:(1≤ke.size∧ke.size≤64)∧va.size≤1000:=hf
  have t1:=txt_front ke (by omega)
  have t2:=txt_front va (by omega)
  have t3:=past_front ke (by omega)
  have t4:=past_front va (by omega)
  have e:bytesOf ⟨3,b,g,q1,q2,q3,s1,s2,ri,se,ke,va,ve,ex⟩++ys=put 3 1++(put b.toNat 1++(put g 4++(put ve 8++(put ex 8++(text ke++(text va++ys)))))):=by simp [bytesOf,more]
  rw [e]
  refine ⟨?_,?_⟩
  ·rw [hnm]
   unfold first
   simp only [skip_front,num_front,t1,t2,t3,t4]
   rw [if_neg (by decide),if_pos (by decide),mb,mg,mve,mex,eb]
   rfl
  ·unfold behind
   simp only [skip_front,num_front,t1,t2,t3,t4]
   rw [if_neg (by decide),if_pos (by decide)]
 ·clear hi
  obtain ⟨p1,p2⟩:1≤ke.size∧ke.size≤64:=hf
  have t1:=txt_front ke (by omega)
  have t3:=past_front ke (by omega)
  have e:bytesOf ⟨4,b,g,q1,q2,q3,s1,s2,ri,se,ke,va,ve,ex⟩++ys=put 4 1++(put b.toNat 1++(put g 4++(put ve 8++(text ke++ys)))):=by simp [bytesOf,more]
  rw [e]
  refine ⟨?_,?_⟩
  ·rw [hnm]
   unfold first
   simp only [skip_front,num_front,t1,t3]
   rw [if_neg (by decide),if_neg (by decide),if_pos (by decide),mb,mg,mve,eb]
   rfl
  ·unfold behind
   simp only [skip_front,num_front,t1,t3]
   rw [if_neg (by decide),if_neg (by decide),if_pos (by decide)]
 ·clear hi
  obtain ⟨p1,p2⟩:1≤ri∧ri≤7:=hf
  have mr:=mod1 (n:=ri.toNat) (by omega)
  have er:((ri.toNat:Nat):Int)=ri:=Int.toNat_of_nonneg (by omega)
  have e:bytesOf ⟨5,b,g,q1,q2,q3,s1,s2,ri,se,ke,va,ve,ex⟩++ys=put 5 1++(put b.toNat 1++(put g 4++(put s2 4++(put ri.toNat 1++(put se 8++ys))))):=by simp [bytesOf,more]
  rw [e]
  refine ⟨?_,?_⟩
  ·rw [hnm]
   unfold first
   simp only [skip_front,num_front]
   rw [if_neg (by decide),if_neg (by decide),if_neg (by decide),if_pos (by decide),mb,mg,ms2,mr,mse,eb,er]
   rfl
  ·unfold behind
   simp only [skip_front,num_front]
   rw [if_neg (by decide),if_neg (by decide),if_neg (by decide),if_pos (by decide)]
 ·clear hi
  have e:bytesOf ⟨6,b,g,q1,q2,q3,s1,s2,ri,se,ke,va,ve,ex⟩++ys=put 6 1++(put b.toNat 1++(put g 4++(put s2 4++ys))):=by simp [bytesOf,more]
  rw [e]
  refine ⟨?_,?_⟩
  ·rw [hnm]
   unfold first
   simp only [skip_front,num_front]
   rw [if_neg (by decide),if_neg (by decide),if_neg (by decide),if_neg (by decide),if_pos (by decide),mb,mg,ms2,eb]
   rfl
  ·unfold behind
   simp only [skip_front,num_front]
   rw [if_neg (by decide),if_neg (by decide),if_neg (by decide),if_neg (by decide),if_pos (by decide)]
 ·clear hi
  have e:bytesOf ⟨7,b,g,q1,q2,q3,s1,s2,ri,se,ke,va,ve,ex⟩++ys=put 7 1++(put b.toNat 1++(put g 4++ys)):=by simp [bytesOf,more]
  rw [e]
  refine ⟨?_,?_⟩
  ·rw [hnm]
   unfold first
   simp only [skip_front,num_front]
   rw [if_neg (by decide),if_neg (by decide),if_neg (by decide),if_neg (by decide),if_neg (by decide),mb,mg,eb]
   rfl
  ·unfold behind
   simp only [skip_front,num_front]
   rw [if_neg (by decide),if_neg (by decide),if_neg (by decide),if_neg (by decide),if_neg (by decide)]
end Go.Proofs.YtbhoknnjilidnaaGreatDoor.Rec
namespace Go.Proofs.YtbhoknnjilidnaaGreatDoor.Rec
open Go.Proofs.YtbhoknnjilidnaaGreatDoor.Mem Go.Proofs.YtbhoknnjilidnaaGreatDoor.Pack
open Go.RowKit
theorem body_cons (r:Rcd) (l:List Rcd):body (r :: l)=bytesOf r++body l:=rfl
theorem recs_of_body (l:List Rcd) (hm:∀ r ∈ l,May r) (hi:∀ r ∈ l,Is r):recs (body l)=some l:=by
 induction l with
 | nil=>exact recs_nil
 | cons r l ih =>
  have h1:=hm r List.mem_cons_self
  have h2:=hi r List.mem_cons_self
  obtain ⟨e1,e2⟩:=front_any r h1 h2 (body l)
  have hl:=(bytesOf_len h1).1
  have hg:good ⟨bytesOf r++body l,false⟩=true:=by
   unfold good
   rw [e1,e2,decide_eq_true h1]
   rfl
  rw [body_cons,recs_good (by rw [List.length_append];omega) hg,e1,e2,ih (fun x hx=>hm x (List.mem_cons_of_mem _ hx)) (fun x hx=>hi x (List.mem_cons_of_mem _ hx))]
  rfl
theorem recsOf_body {l:List Rcd} (hok:okBody l) (hi:∀ r ∈ l,Is r):recsOf (body l)=some l:=by
 have h:=recs_of_body l hok.2.1 hi
 unfold recsOf
 rw [if_neg,h]
 intro e
 have e2:=List.eq_nil_of_length_eq_zero e
 rw [e2,recs_nil] at h
 injection h with h
 have:=hok.1
 rw [← h] at this
 simp at this
theorem own_nil_cap {w:World} {base n:Nat} {e:TypeId} {v:Value} {xs:List Int} (h:w.ownsRow base e 1 v n (cellsOf xs)) (hb:Bytes xs):∃ a cap,v = .slice a xs.length cap∧Row w a xs.length xs∧(a=none→cap=0)∧n=xs.length:=by
 obtain ⟨a,cap,rfl,hr,hl,hD⟩:=own_shape h hb
 subst hl
 refine ⟨a,cap,rfl,hr,fun hn=>?_,rfl⟩
 rcases hD with ⟨_,h,_⟩|⟨g,h,_⟩
 ·exact h
 ·rw [hn] at h;cases h
theorem body_le2 {l:List Rcd} (h:∀ r ∈ l,May r):6 * l.length≤(body l).length:=by
 induction l with
 | nil=>simp [body]
 | cons r l ih =>
  have h1:=bytesOf_len (h r List.mem_cons_self)
  have h2:=ih (fun x hx=>h x (List.mem_cons_of_mem _ hx))
  rw [body_cons,List.length_append,List.length_cons]
  omega
end Go.Proofs.YtbhoknnjilidnaaGreatDoor.Rec
namespace Go.Proofs.YtbhoknnjilidnaaGreatDoor.Rec
open Go.Proofs.YtbhoknnjilidnaaGreatDoor.Mem Go.Proofs.YtbhoknnjilidnaaGreatDoor.Pack Go.Proofs.YtbhoknnjilidnaaGreatDoor.Err
open Go.ChangeShapes Go.WideShapes Go.ChangeAt Go.RowKit
def Small (l:List Rcd):Prop:=∀ r ∈ l,r.key.size≤200∧r.val.size≤2000
def FewAt (m:Nat) (l:List Rcd) (b:Bool):Prop:=(b=true∧Small l∧l.length≤m)∨(b=false∧¬ (Small l∧l.length≤m))
theorem small_take {l:List Rcd} {k:Nat} (h:k < l.length) (hm:Small (l.take k)) (hk:l[k].key.size≤200∧l[k].val.size≤2000):Small (l.take (k+1)):=by
 intro r hr
 rw [List.take_succ_eq_append_getElem h] at hr
 rcases List.mem_append.1 hr with h1|h1
 ·exact hm r h1
 ·rw [List.mem_singleton.1 h1];exact hk
theorem few_at (m:Nat) (hm:m≤1000000) (a:Option Addr) (cap:Nat) (l:List Rcd) (w:World) (h:Recs w a l) (hl:l.length≤9223372036854775807) :
  Calls Tryz.prog 7 #[.slice a l.length cap,.int .i64 (m:Int)] w fun e w'=>(∃ z,e = .returned (.bool z)∧FewAt m l z)∧w=w':=by
 have HR0:=Lib.hid h
 clear h
 go_enter Tryz.func7,Tryz.ntmps7
 go_wp2
 go_loopw [5] (fun i wr=>∃ k:Nat,k≤l.length∧i = .int .i64 (k:Int)∧Small (l.take k)∧wr=w) (fun i _=>l.length - (intOf i).toNat)
 case atStart=>exact ⟨0,Nat.zero_le _,rfl,fun r hr=>absurd hr List.not_mem_nil,rfl⟩
 case round =>
  obtain ⟨k,hk,rfl,hs,rfl⟩:=hrel
  by_cases hlt:k < l.length
  ·obtain ⟨hi,b,off,rfl,hblt,hc⟩:(∀ r ∈ l,Is r)∧∃ b off,a=some ⟨b,off,none⟩∧b < wr.heap.size∧∀ i (h:i < l.length) j u,(cells l[i])[j]?=some u→wr.cell? ⟨b,off+i * 14+j,none⟩=some u:=⟨HR0.out.1,HR0.out.2 (by omega)⟩
   have his:=hi l[k] (List.getElem_mem hlt)
   have hin:=List.getElem_mem hlt
   have hck:=fun j u (hu:(cells l[k])[j]?=some u)=>hc k hlt j u hu
   obtain ⟨r,hr⟩:∃ r,r=l[k]:=⟨_,rfl⟩
   have hst:=small_take hlt hs
   rw [← hr] at hck his hin hst
   obtain ⟨-,-,-,-,-,-,-,-,-,-,e10,e11,-,-⟩:=cells_at hck
   have HS:=Lib.hid hst
   have HIN:=Lib.hid hin
   have hks:=his.key
   have hvs:=his.val
   clear hst hs hin hck hr his hi hc HR0
   by_cases h1:200 < r.key.size
   ·have d1:decide (200 < (r.key.size:Int))=true:=decide_eq_true (by omega)
    go_wp2
    go_ret
    exact ⟨⟨false,rfl,.inr ⟨rfl,fun h=>by have:=(h.1 r HIN.out).1;omega⟩⟩,rfl⟩
   ·have d1:decide (200 < (r.key.size:Int))=false:=decide_eq_false (by omega)
    by_cases h2:2000 < r.val.size
    ·have d2:decide (2000 < (r.val.size:Int))=true:=decide_eq_true (by omega)
     go_wp2
     go_ret
     exact ⟨⟨false,rfl,.inr ⟨rfl,fun h=>by have:=(h.1 r HIN.out).2;omega⟩⟩,rfl⟩
    ·have d2:decide (2000 < (r.val.size:Int))=false:=decide_eq_false (by omega)
     go_wp2
     go_roundw
     case rel=>exact ⟨k+1,by omega,by go_num,HS.out ⟨by omega,by omega⟩,by first|trivial|rfl⟩
     case measure=>simp [intOf];omega
  ·have hkl:k=l.length:=by omega
   have hall:l.take k=l:=List.take_of_length_le (by omega)
   rw [hall] at hs
   have HS:=Lib.hid hs
   subst hkl
   clear hs hall hlt hk HR0
   by_cases h40:l.length≤m
   ·have d:decide ((l.length:Int)≤(m:Int))=true:=decide_eq_true (by omega)
    go_wp2
    go_ret
    exact ⟨⟨true,rfl,.inl ⟨rfl,HS.out,h40⟩⟩,rfl⟩
   ·have d:decide ((l.length:Int)≤(m:Int))=false:=decide_eq_false (by omega)
    go_wp2
    go_ret
    exact ⟨⟨false,rfl,.inr ⟨rfl,fun h=>h40 h.2⟩⟩,rfl⟩
end Go.Proofs.YtbhoknnjilidnaaGreatDoor.Rec
namespace Go.Proofs.YtbhoknnjilidnaaGreatDoor.Rec
open Go.Proofs.YtbhoknnjilidnaaGreatDoor.Mem Go.Proofs.YtbhoknnjilidnaaGreatDoor.Pack Go.Proofs.YtbhoknnjilidnaaGreatDoor.Err
open Go.ChangeShapes Go.WideShapes Go.ChangeAt Go.RowKit
def leftOf (w:World) (p:Nat):Nat :=
 match w.cell? ⟨p,0,none⟩ with
 | some (.slice _ n _)=>n
 | _=>0
theorem leftOf_rd {w:World} {p D:Nat} {zs:List Int} {s:Bool} (h:Rd w p D zs s):leftOf w p=zs.length:=by
 obtain ⟨_,_,_,_,_,h6⟩:=h
 unfold leftOf
 rcases h6 with ⟨h6,rfl⟩|⟨off,cap,_,hc,_⟩
 ·rw [h6];rfl
 ·rw [hc]
def GetSays (w:World) (zs:List Int) (e:Ending) (w':World):Prop :=
 Below w.heap.size w w'∧((∃ l v,recsOf zs=some l∧e = .returned (.tuple #[v,.nilIface])∧w'.ownsRow w.heap.size 79 14 v l.length (rcl l)∧(∀ r ∈ l,Is r)) ∨
  (recsOf zs=none∧e = .returned (.tuple #[.slice none 0 0,.iface 33 (.int .i64 2)])))
theorem recGet_none (a:Option Addr) (cap:Nat) (w:World):Calls Tryz.prog 101 #[.slice a 0 cap] w fun e w'=>GetSays w [] e w':=by
 go_enter Tryz.func101,Tryz.ntmps101
 go_wp2
 go_ret2
 exact ⟨Below.refl _ _,.inr ⟨rfl,rfl⟩⟩
theorem recGet_some (a:Option Addr) (cap:Nat) (zs:List Int) (w:World) (h:Row w a zs.length zs) (hn:a=none→cap=0) (h0:0 < zs.length) (hl:zs.length≤1000000) :
  Calls Tryz.prog 101 #[.slice a zs.length cap] w fun e w'=>GetSays w zs e w':=by
 obtain ⟨i0,hi0,hz0,hz1,hz2⟩:=info_parts rec_info
 have hn0:((zs.length:Int) == 0)=false:=beq_eq_false_iff_ne.2 (by omega)
 have hzb:=h.2.1
 have hnew:=new_any a zs.length cap zs w h hn (by omega)
 have hrz:recsOf zs=recs zs:=if_neg (by omega)
 have HRZ:=Lib.hid hrz
 clear h hn hrz
 obtain ⟨L,hL⟩:∃ L,L=zs.length:=⟨_,rfl⟩
 rw [← hL] at hnew hn0 ⊢
 have HL:=Lib.hid hL
 have hL0:0 < L:=by omega
 have hL1:L≤1000000:=by omega
 clear hL h0 hl
 go_enter Tryz.func101,Tryz.ntmps101
 go_wp2_with fail
 refine hnew.mono ?_
 rintro e w1 ⟨p,rfl,hp,D,hrd,hb1,hD1,hD2⟩
 have hp1:p < w1.heap.size:=World.block_lt_of_cell? w1 ⟨p,1,none⟩ hrd.1
 have HRD:=Lib.hid (And.intro hrd hb1)
 clear hrd hb1 hnew
 go_wp2_with fail
 go_loopw [4,6] (fun v b wr=>∃ (done:List Rcd) (P:List Int) (va:Option Addr) (n vc:Nat),v = .slice va n vc∧n=done.length∧wr.ownsRow w.heap.size 79 14 (.slice va n vc) n (rcl done)∧(∀ k,(Value.slice va n vc).ownBlock=some k→p < k)∧Rd wr p D P false∧recs zs=(recs P).map (done ++ ·)∧(∀ r ∈ done,Is r)∧Below w.heap.size w wr∧n+P.length≤L∧p < wr.heap.size) (fun _ _ wr=>leftOf wr p)
 case atStart =>
  refine ⟨[],zs,none,0,0,rfl,rfl,World.ownsRow_nil _ _ _ _,fun k hk=>(by cases hk),HRD.out.1,?_,fun r hr=>absurd hr List.not_mem_nil,HRD.out.2,by have:=HL.out;omega,hp1⟩
  cases recs zs <;> simp
 case round =>
  obtain ⟨done,P,va,n,vc,rfl,hnd,ho,hpk,hrd,heq,his,hb,hlen,hpw⟩:=hrel
  have HND:=Lib.hid hnd
  clear hnd
  have hPB:Bytes P:=hrd.2.2.2.2.1
  have HM0:=Lib.hid (leftOf_rd hrd)
  have hleft:=left_any p P false wr hrd
  have H0:=Lib.hid (And.intro ho (And.intro hpk (And.intro hrd (And.intro heq (And.intro his hb)))))
  have hnx:=next_any p D ⟨P,false⟩ hPB wr hrd hpw (by omega)
  obtain ⟨r,hr⟩:∃ r,r=first ⟨P,false⟩:=⟨_,rfl⟩
  have hir:Is r:=by rw [hr];exact first_is hPB
  have hrecs:0 < P.length→∀ b,good ⟨P,false⟩=b→(b=true→recs P=(recs (behind ⟨P,false⟩).zs).map (r :: ·))∧(b=false→recs P=none):=by
   intro hpos b hb
   exact ⟨fun e=>by rw [hr];exact recs_good hpos (hb.trans e),fun e=>recs_bad hpos (hb.trans e)⟩
  have hblt:0 < P.length→(behind ⟨P,false⟩).zs.length < P.length:=fun hpos=>behind_lt ⟨P,false⟩ hpos
  have hgood:good ⟨P,false⟩=(decide (May r) && !(behind ⟨P,false⟩).short):=by rw [hr];rfl
  obtain ⟨Q,hQ⟩:∃ Q,Q=behind ⟨P,false⟩:=⟨_,rfl⟩
  rw [← hr,← hQ] at hnx
  rw [← hQ] at hrecs hblt hgood
  have hm:=fun w=>may_any r w
  simp only [rv,cells] at hnx hm
  have HX:=Lib.hid (And.intro hir (And.intro hrecs (And.intro hblt hgood)))
  have HM:=Lib.hid hm
  have HNX:=Lib.hid hnx
  clear ho hpk hrd heq his hb hPB hr hir hrecs hblt hgood hQ hm hnx
  go_wp2_with fail
  refine hleft.mono ?_
  rintro e w2 ⟨rfl,rfl⟩
  clear hleft
  by_cases hP:P.length=0
  ·obtain ⟨ho,hpk,hrd,heq,his,hb⟩:=H0.out
   have HF:Hid (recsOf zs=some done∧wr.ownsRow w.heap.size 79 14 (.slice va n vc) n (rcl done)∧(∀ r ∈ done,Is r)∧Below w.heap.size w wr∧n=done.length):=by
    refine Lib.hid ⟨?_,ho,his,hb,HND.out⟩
    rw [HRZ.out,heq,List.eq_nil_of_length_eq_zero hP,recs_nil]
    simp
   clear ho hpk hrd heq his hb H0 HX HNX HM0
   rw [hP]
   clear hP hlen
   go_wp2_with fail
   go_ret2
   obtain ⟨h1,h2,h3,h4,h5⟩:=HF.out
   exact ⟨h4,.inl ⟨done,_,h1,rfl,by rw [← h5];exact h2,h3⟩⟩
  ·have hpos:0 < P.length:=by omega
   have hposI:(0:Int) < (P.length:Int):=by omega
   go_wp2_with fail
   refine HNX.out.mono ?_
   rintro e w3 ⟨rfl,hr3,hb3⟩
   obtain ⟨ho,hpk,hrd,heq,his,hb⟩:=H0.out
   have ho3:=ownsRow_but ho hb3 (fun k hk e=>by have:=hpk k hk;omega)
   have hbw3:Below w.heap.size w w3:=hb.trans (hb3.below hb.size (fun k hk=>by omega))
   have hp3:p < w3.heap.size:=Nat.lt_of_lt_of_le hpw hb3.size
   have hrA:RdP p D (w3.alloc (.cells (cells r) 79)) Q:=Rd.below hr3 ((Below.refl _ w3).alloc (Nat.le_refl _) _)
   have hsh:=short_any p Q.zs Q.short _ hrA
   simp only [cells] at hsh
   obtain ⟨sh,hse⟩:∃ s,s=Q.short:=⟨_,rfl⟩
   rw [← hse] at hsh
   have HSE:=Lib.hid hse
   have HSH:=Lib.hid hsh
   have H3:=Lib.hid (And.intro ho3 (And.intro hbw3 (And.intro hp3 (And.intro hrA (And.intro hpk (And.intro heq his))))))
   have HNONE:Hid (good ⟨P,false⟩=false→recsOf zs=none):=by
    refine Lib.hid (fun hg=>?_)
    rw [HRZ.out,heq,(HX.out.2.1 hpos false hg).2 rfl]
    rfl
   clear ho hpk hrd heq his hb ho3 hbw3 hp3 hrA hsh hse hr3 hb3 H0 HNX
   go_wp2_with fail
   refine HSH.out.mono ?_
   rintro e w4 ⟨rfl,rfl⟩
   have hbA:Below w.heap.size w (w3.alloc (.cells (cells r) 79)):=H3.out.2.1.alloc H3.out.2.1.size _
   have HBA:=Lib.hid hbA
   clear hbA HSH
   cases sh
   rotate_left
   ·have HN:=Lib.hid (HNONE.out (by rw [HX.out.2.2.2,← HSE.out];simp))
    go_wp2_with fail
    go_ret2
    exact ⟨HBA.out,.inr ⟨HN.out,rfl⟩⟩
   ·go_wp2_with fail
    refine (HM.out _).mono ?_
    rintro e w4 ⟨rfl,hb4⟩
    have hbw4:Below w.heap.size w w4:=HBA.out.trans (hb4.mono HBA.out.size)
    have HB4:=Lib.hid hbw4
    by_cases hmr:May r
    rotate_left
    ·rw [decide_eq_false hmr]
     have HN:=Lib.hid (HNONE.out (by rw [HX.out.2.2.2,decide_eq_false hmr,Bool.false_and]))
     clear hb4 hbw4
     go_wp2_with fail
     go_ret2
     exact ⟨HB4.out,.inr ⟨HN.out,rfl⟩⟩
    ·rw [decide_eq_true hmr]
     obtain ⟨ho3,hbw3,hp3,hrA,hpk,heq,his⟩:=H3.out
     have ho4:=ownsRow_but (ownsRow_alloc ho3 (.cells (cells r) 79)) (But.of_new hb4 (S:=fun _=>False)) (fun _ _ e=>e)
     have hbox4:Blk w4 w3.heap.size 79 (cells r):=(Blk.new w3 79 (cells r)).but (But.of_new hb4 (S:=fun _=>False)) (fun e=>e)
     have hr4:RdP p D w4 Q:=Rd.below hrA hb4
     have hp4:p < w4.heap.size:=by have:=hb4.size;simp at this;omega
     have HR4:=Lib.hid (And.intro hr4 hp4)
     have HO4:=Lib.hid ho4
     simp only [cells] at hbox4
     have HX4:=Lib.hid (show _=_ from hbox4)
     have hgt:good ⟨P,false⟩=true:=by rw [HX.out.2.2.2,decide_eq_true hmr,← HSE.out];rfl
     have hnew:recs zs=(recs Q.zs).map ((done++[r]) ++ ·):=by
      rw [heq,(HX.out.2.1 hpos true hgt).1 rfl,Option.map_map]
      congr 1
      funext x
      simp
     have HNEW:=Lib.hid hnew
     have HPK:=Lib.hid hpk
     have HIS:=Lib.hid his
     have hsz4:w.heap.size≤w4.heap.size:=hbw4.size
     clear ho3 hbw3 hp3 hrA hpk heq his ho4 hbox4 hr4 hp4 hgt hnew hb4 hbw4 H3 HBA HNONE
     go_wp2_with (first
      | (refine wpList_load_row rfl 79 _ rfl w3.heap.size rfl 79 _ (0,0) _ HX4.out Tryz.underlying79 rfl rec_size ?_)
      | (at_builtin;refine wpList_append_onto rfl (.tmp 26) (.tmp 28) _ rfl w.heap.size 79 i0 _ 14 128 Tryz.underlying38 hi0 hz0 hz1 hz2 rfl (by omega) (.slice va n vc) n (rcl done) rfl (ownsRow_alloc HO4.out _) (.slice (some ⟨w4.heap.size,0,none⟩) 1 1) 1 (cells r).toList rfl (sees_rec _ (cells r) (by simp [cells]) _ _ _ rfl) (cells_one r) (by simp only [maxLen];omega) (by omega) (by simp;omega) ?_;intro v5 w5 ho5 hon5))
     rw [← rcl_snoc] at ho5
     obtain ⟨g,c5,rfl,hnc⟩:∃ g c,v5 = .slice (some ⟨g,0,none⟩) (n+1) c∧True:=by
      rcases ho5.2 with ⟨_,h⟩|⟨g,cap,cur,hv,_⟩
      ·omega
      ·exact ⟨g,cap,hv,trivial⟩
     have hon:=hon5.of_alloc (fun k hk=>(HO4.out.lt k hk).2)
     have hr5:Rd w5 p D Q.zs false:=by
      have k:=Rd.but (S:=fun k=>some k=(Value.slice va n vc).ownBlock) HR4.out.1 hon.but (fun e=>by have:=HPK.out p e.symm;omega) (fun e=>by have:=HPK.out D e.symm;omega)
      rw [← HSE.out] at k
      exact k
     have hb5:Below w.heap.size w w5:=HB4.out.trans (hon.below HO4.out hsz4)
     have hp5:p < w5.heap.size:=Nat.lt_of_lt_of_le HR4.out.2 hon.grown.size
     have hpk5:∀ k,(Value.slice (some ⟨g,0,none⟩) (n+1) c5).ownBlock=some k→p < k:=by
      intro k hk
      rcases hon.own with h1|h1
      ·exact HPK.out k (h1 ▸ hk)
      ·have:=h1 k hk;have:=HR4.out.2;omega
     have hlt:=HX.out.2.2.1 hpos
     have hm5:=leftOf_rd hr5
     have hm0:=HM0.out
     have H5:=Lib.hid (And.intro ho5 (And.intro hpk5 (And.intro hr5 (And.intro hb5 hp5))))
     clear ho5 hnc hon hon5 hr5 hb5 hp5 hpk5
     go_roundw
     case rel =>
      obtain ⟨ho5,hpk5,hr5,hb5,hp5⟩:=H5.out
      exact ⟨done++[r],Q.zs,_,n+1,c5,rfl,by simp [HND.out],ho5,hpk5,hr5,HNEW.out,fun x hx=>by
       rcases List.mem_append.1 hx with h|h
       ·exact HIS.out x h
       ·rw [List.mem_singleton.1 h];exact HX.out.1,hb5,by omega,hp5⟩
     case measure=>omega
theorem recGet_any (a:Option Addr) (cap:Nat) (zs:List Int) (w:World) (h:Row w a zs.length zs) (hn:a=none→cap=0) (hl:zs.length≤1000000) :
  Calls Tryz.prog 101 #[.slice a zs.length cap] w fun e w'=>GetSays w zs e w':=by
 rcases Nat.eq_zero_or_pos zs.length with h0|h0
 ·have e:=List.eq_nil_of_length_eq_zero h0
  subst e
  exact recGet_none a cap w
 ·exact recGet_some a cap zs w h hn h0 hl
end Go.Proofs.YtbhoknnjilidnaaGreatDoor.Rec
namespace Go.Proofs.YtbhoknnjilidnaaGreatDoor.Rec
open Go.Proofs.YtbhoknnjilidnaaGreatDoor.Mem Go.Proofs.YtbhoknnjilidnaaGreatDoor.Pack
open Go.ChangeShapes Go.WideShapes Go.ChangeAt Go.RowKit
theorem below_drewN {B:Nat} {w w':World} (h:Below B w w') (n:Nat):Below B w (w'.drewN n):=⟨h.os,h.tape,h.output,h.size,h.block⟩
end Go.Proofs.YtbhoknnjilidnaaGreatDoor.Rec

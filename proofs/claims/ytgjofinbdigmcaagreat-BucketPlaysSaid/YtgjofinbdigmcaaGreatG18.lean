/- Whether a record may be: the walks of record.May. Rows of records: what lies in them, and the calls that make and ask for bytes, of any kind. The body of records: the walk of record.Put. Whether records are few and small, and whether records are the same: the walks of the reference's Few and Same. Contract of the document's Same, of any two rows of records. What a record costs: the walks of record.Cost and of the reference's Cost. Rows of structs: a block as its places' cells one behind the other. A bucket in plain values: the bytes of all keys, what a record makes of it; and lists of entries of tables. -/
import Derived.Test.YtgjofinbdigmcaaGreatG16
import Derived.Test.YtgjofinbdigmcaaGreatG17
import Derived.Test.YtgjofinbdigmcaaGreatG12
import Derived.Test.YtgjofinbdigmcaaGreatG13
import Derived.Test.YtgjofinbdigmcaaGreatG02
import Derived.Test.YtgjofinbdigmcaaGreatG10
import Derived.Deep.MidRow
import Derived.Test.YtgjofinbdigmcaaGreatG06
import Derived.Test.YtgjofinbdigmcaaGreatG07
import Derived.Test.YtgjofinbdigmcaaGreatG05
import Derived.Test.YtgjofinbdigmcaaGreatG11
set_option linter.unusedSimpArgs false
set_option linter.unusedVariables false
set_option maxHeartbeats 4000000
set_option maxRecDepth 100000
section
namespace Go.Proofs.YtgjofinbdigmcaaGreat.Rec
open Go.Proofs.YtgjofinbdigmcaaGreat.Mem Go.Proofs.YtgjofinbdigmcaaGreat.Pack
open Go.ChangeShapes Go.WideShapes Go.ChangeAt Go.RowKit
theorem may_any (r:Rcd) (w:World):Calls Tryz.prog 28 #[rv r] w fun e w'=>e = .returned (.bool (decide (May r)))∧Below w.heap.size w w':=by
 by_cases hr:r=named r
 rotate_left
 ·rw [decide_eq_false (fun h:May r=>hr h.2.2.2.2.2.1)]
  exact may_neq r hr w
 by_cases h0:0≤r.bucket
 rotate_left
 ·rw [decide_eq_false (fun h:May r=>h0 h.2.2.1)]
  exact may_low r hr (by omega) w
 by_cases h1:r.bucket < 64
 rotate_left
 ·rw [decide_eq_false (fun h:May r=>h1 h.2.2.2.1)]
  exact may_high r hr h0 (by omega) w
 by_cases h2:1≤r.gen
 rotate_left
 ·rw [decide_eq_false (fun h:May r=>h2 h.2.2.2.2.1)]
  exact may_gen r hr h0 h1 (by omega) w
 have hk:1≤r.kind∧r.kind≤7:=by
  rcases Int.lt_or_le r.kind 1 with h|h
  ·exfalso
   have e:named r=zero:=by
    unfold named
    rw [if_neg (by omega),if_neg (by omega),if_neg (by omega),if_neg (by omega),if_neg (by omega),if_neg (by omega)]
   rw [e] at hr
   rw [hr] at h2
   exact absurd h2 (by decide)
  ·rcases Int.lt_or_le 7 r.kind with h'|h'
   ·exfalso
    have e:named r=zero:=by
     unfold named
     rw [if_neg (by omega),if_neg (by omega),if_neg (by omega),if_neg (by omega),if_neg (by omega),if_neg (by omega)]
    rw [e] at hr
    rw [hr] at h2
    exact absurd h2 (by decide)
   ·exact ⟨h,h'⟩
 have e:decide (May r)=decide (fits r):=by
  rw [Bool.eq_iff_iff,decide_eq_true_iff,decide_eq_true_iff]
  exact ⟨fun h=>h.2.2.2.2.2.2,fun h=>⟨hk.1,hk.2,h0,h1,h2,hr,h⟩⟩
 rw [e]
 exact may_pass r hr h0 h1 h2 hk w
end Go.Proofs.YtgjofinbdigmcaaGreat.Rec
end
section
namespace Go.Proofs.YtgjofinbdigmcaaGreat.Rec
open Go.Proofs.YtgjofinbdigmcaaGreat.Mem Go.Proofs.YtgjofinbdigmcaaGreat.Pack
open Go.ChangeShapes Go.WideShapes Go.ChangeAt Go.RowKit
theorem rput_any (r:Rcd) (hm:May r) (hi:Is r) (v:Value) (len:Nat) (xs:List Int) (base:Nat) (w:World)
  (hown:w.ownsRow base 5 1 v len (cellsOf xs)) (hb:base≤w.heap.size) (hl:len≤1000000):Calls Tryz.prog 64 #[v,rv r] w fun e w'=>Puts base w xs len r e w':=by
 have hk:r.kind=1∨r.kind=2∨r.kind=3∨r.kind=4∨r.kind=5∨r.kind=6∨r.kind=7:=by have h1:=hm.1;have h2:=hm.2.1;omega
 rcases hk with h|h|h|h|h|h|h
 ·exact rput_1 r h hm hi v len xs base w hown hb hl
 ·exact rput_2 r h hm hi v len xs base w hown hb hl
 ·exact rput_3 r h hm hi v len xs base w hown hb hl
 ·exact rput_4 r h hm hi v len xs base w hown hb hl
 ·exact rput_5 r h hm hi v len xs base w hown hb hl
 ·exact rput_6 r h hm hi v len xs base w hown hb hl
 ·exact rput_7 r h hm hi v len xs base w hown hb hl
theorem rbytes_any (r:Rcd) (hm:May r) (hi:Is r) (v:Value) (len:Nat) (xs:List Int) (base:Nat) (w:World)
  (hown:w.ownsRow base 5 1 v len (cellsOf xs)) (hb:base≤w.heap.size) (hl:len≤1000000000):Calls Tryz.prog 66 #[v,rv r] w fun e w'=>Puts base w xs len r e w':=by
 have hk:r.kind=1∨r.kind=2∨r.kind=3∨r.kind=4∨r.kind=5∨r.kind=6∨r.kind=7:=by have h1:=hm.1;have h2:=hm.2.1;omega
 rcases hk with h|h|h|h|h|h|h
 ·exact rbytes_1 r h hm hi v len xs base w hown hb hl
 ·exact rbytes_2 r h hm hi v len xs base w hown hb hl
 ·exact rbytes_3 r h hm hi v len xs base w hown hb hl
 ·exact rbytes_4 r h hm hi v len xs base w hown hb hl
 ·exact rbytes_5 r h hm hi v len xs base w hown hb hl
 ·exact rbytes_6 r h hm hi v len xs base w hown hb hl
 ·exact rbytes_7 r h hm hi v len xs base w hown hb hl
theorem text_length (s:ByteArray):(text s).length=2+s.size:=by simp [text,put_length,strBytes_length]
theorem more_le {r:Rcd} (hm:May r):(more r).length≤1084:=by
 have hf:=hm.2.2.2.2.2.2
 unfold fits keyMay at hf
 unfold more
 split
 ·simp [put_length]
 ·rename_i h1
  rw [if_neg h1] at hf
  split
  ·rename_i h3
   rw [if_pos h3] at hf
   simp [put_length,text_length];omega
  ·rename_i h3
   rw [if_neg h3] at hf
   split
   ·rename_i h4
    rw [if_pos h4] at hf
    simp [put_length,text_length];omega
   ·split
    ·simp [put_length]
    ·split
     ·simp [put_length]
     ·simp
theorem bytesOf_len {r:Rcd} (hm:May r):6≤(bytesOf r).length∧(bytesOf r).length≤1090:=by
 have h:=more_le hm
 simp only [bytesOf,List.length_append,put_length]
 omega
theorem text_bytes (s:ByteArray):Bytes (text s):=bytes_append (put_bytes _ _) (strBytes_bytes s)
theorem bytesOf_bytes (r:Rcd):Bytes (bytesOf r):=by
 refine bytes_append (put_bytes _ _) (bytes_append (put_bytes _ _) (bytes_append (put_bytes _ _) ?_))
 unfold more
 split
 ·exact bytes_append (put_bytes _ _) (bytes_append (put_bytes _ _) (bytes_append (put_bytes _ _) (bytes_append (put_bytes _ _) (put_bytes _ _))))
 ·split
  ·exact bytes_append (put_bytes _ _) (bytes_append (put_bytes _ _) (bytes_append (text_bytes _) (text_bytes _)))
  ·split
   ·exact bytes_append (put_bytes _ _) (text_bytes _)
   ·split
    ·exact bytes_append (put_bytes _ _) (bytes_append (put_bytes _ _) (put_bytes _ _))
    ·split
     ·exact put_bytes _ _
     ·exact bytes_nil
def Recs (w:World) (a:Option Addr) (l:List Rcd):Prop :=
 (∀ r ∈ l,Is r)∧(0 < l.length→∃ b off,a=some ⟨b,off,none⟩∧b < w.heap.size∧∀ i (h:i < l.length) j u,(cells l[i])[j]?=some u→w.cell? ⟨b,off+i * 14+j,none⟩=some u)
theorem Recs.but {S:Nat→Prop} {w w':World} {a:Option Addr} {l:List Rcd} (h:Recs w a l) (hb:But S w w') (hs:∀ p,a=some p→¬ S p.block):Recs w' a l:=by
 refine ⟨h.1,fun hn=>?_⟩
 obtain ⟨b,off,rfl,hlt,hc⟩:=h.2 hn
 exact ⟨b,off,rfl,Nat.lt_of_lt_of_le hlt hb.size,fun i hi j u hu=>(hb.cell (p:=⟨b,off+i * 14+j,none⟩) hlt (hs ⟨b,off,none⟩ rfl)).trans (hc i hi j u hu)⟩
theorem Recs.below {w w':World} {a:Option Addr} {l:List Rcd} (h:Recs w a l) (hb:Below w.heap.size w w'):Recs w' a l:=h.but (S:=fun _=>False) (But.of_new hb) (fun _ _ e=>e)
theorem Recs.nil (w:World) (a:Option Addr):Recs w a []:=⟨fun _ h=>absurd h List.not_mem_nil,fun h=>absurd h (by simp)⟩
end Go.Proofs.YtgjofinbdigmcaaGreat.Rec
end
section
namespace Go.Proofs.YtgjofinbdigmcaaGreat.Rec
open Go.Proofs.YtgjofinbdigmcaaGreat.Mem Go.Proofs.YtgjofinbdigmcaaGreat.Pack Go.Proofs.YtgjofinbdigmcaaGreat.Err
open Go.ChangeShapes Go.WideShapes Go.ChangeAt Go.RowKit
theorem cells_at {w:World} {b o:Nat} {r:Rcd} (h:∀ j u,(cells r)[j]?=some u→w.cell? ⟨b,o+j,none⟩=some u):w.cell? ⟨b,o,none⟩=some (.int .i64 r.kind)∧w.cell? ⟨b,o+1,none⟩=some (.int .i64 r.bucket)∧w.cell? ⟨b,o+2,none⟩=some (.int .u32 (r.gen:Int))∧w.cell? ⟨b,o+3,none⟩=some (.int .i64 r.keys)∧w.cell? ⟨b,o+4,none⟩=some (.int .i64 r.bytes)∧w.cell? ⟨b,o+5,none⟩=some (.int .i64 r.budget)∧w.cell? ⟨b,o+6,none⟩=some (.int .u64 (r.seq:Int))∧w.cell? ⟨b,o+7,none⟩=some (.int .u32 (r.serial:Int))∧w.cell? ⟨b,o+8,none⟩=some (.int .i64 r.rights)∧w.cell? ⟨b,o+9,none⟩=some (.int .u64 (r.secret:Int))∧w.cell? ⟨b,o+10,none⟩=some (.string r.key)∧w.cell? ⟨b,o+11,none⟩=some (.string r.val)∧w.cell? ⟨b,o+12,none⟩=some (.int .u64 (r.version:Int))∧w.cell? ⟨b,o+13,none⟩=some (.int .u64 (r.expiry:Int)) :=
 ⟨h 0 _ rfl,h 1 _ rfl,h 2 _ rfl,h 3 _ rfl,h 4 _ rfl,h 5 _ rfl,h 6 _ rfl,h 7 _ rfl,h 8 _ rfl,h 9 _ rfl,h 10 _ rfl,h 11 _ rfl,h 12 _ rfl,h 13 _ rfl⟩
end Go.Proofs.YtgjofinbdigmcaaGreat.Rec
end
section
namespace Go.Proofs.YtgjofinbdigmcaaGreat.Rec
open Go.Proofs.YtgjofinbdigmcaaGreat.Mem Go.Proofs.YtgjofinbdigmcaaGreat.Pack Go.Proofs.YtgjofinbdigmcaaGreat.Err
open Go.ChangeShapes Go.WideShapes Go.ChangeAt Go.RowKit
end Go.Proofs.YtgjofinbdigmcaaGreat.Rec
end
section
namespace Go.Proofs.YtgjofinbdigmcaaGreat.Rec
open Go.Proofs.YtgjofinbdigmcaaGreat.Mem
open Go.ChangeShapes Go.WideShapes Go.ChangeAt Go.RowKit
theorem list_eq_of {α:Type} {l l':List α} (h:l.length=l'.length) (hk:∀ j (h1:j < l.length) (h2:j < l'.length),l[j]=l'[j]):l=l':=List.ext_getElem h hk
theorem same_any (a a':Option Addr) (cap cap':Nat) (l l':List Rcd) (w:World) (h:Recs w a l) (h':Recs w a' l') (hl:l.length≤9223372036854775807) (hl':l'.length≤9223372036854775807) :
  Calls Tryz.prog 45 #[.slice a l.length cap,.slice a' l'.length cap'] w fun e w'=>e = .returned (.bool (decide (l=l')))∧∃ n,w'=w.drewN n:=by
 by_cases hlen:l.length=l'.length
 ·have HR0:=Lib.hid h
  have HR1:=Lib.hid h'
  have HLE:=Lib.hid hlen
  rw [← hlen]
  clear h h'
  go_enter Tryz.func45,Tryz.ntmps45
  go_wp2
  go_loopw [5] (fun i wr=>∃ k n:Nat,k≤l.length∧i = .int .i64 (k:Int)∧wr=w.drewN n∧(∀ j (h1:j < l.length) (h2:j < l'.length),j < k→l[j]=l'[j])) (fun i _=>l.length - (intOf i).toNat)
  case atStart=>exact ⟨0,0,Nat.zero_le _,rfl,rfl,fun j _ _ hj=>by omega⟩
  case round =>
   obtain ⟨k,n,hk,rfl,rfl,hall⟩:=hrel
   have HALL:=Lib.hid hall
   clear hall
   by_cases hlt:k < l.length
   ·have hlt':k < l'.length:=by have:=HLE.out;omega
    obtain ⟨b,off,rfl,hblt,hc⟩:∃ b off,a=some ⟨b,off,none⟩∧b < w.heap.size∧∀ i (h:i < l.length) j u,(cells l[i])[j]?=some u→w.cell? ⟨b,off+i * 14+j,none⟩=some u:=HR0.out.2 (by omega)
    obtain ⟨b',off',rfl,hblt',hc'⟩:∃ b off,a'=some ⟨b,off,none⟩∧b < w.heap.size∧∀ i (h:i < l'.length) j u,(cells l'[i])[j]?=some u→w.cell? ⟨b,off+i * 14+j,none⟩=some u:=HR1.out.2 (by omega)
    have hck:=fun j u (hu:(cells l[k])[j]?=some u)=>hc k hlt j u hu
    have hck':=fun j u (hu:(cells l'[k])[j]?=some u)=>hc' k hlt' j u hu
    have HEQ:=Lib.hid (show ∀ r r',r=l[k]→r'=l'[k]→(r=r'→∀ j (h1:j < l.length) (h2:j < l'.length),j < k+1→l[j]=l'[j])∧(r≠r'→l≠l') from fun r r' h1 h2=>⟨fun e j h3 h4 hj=>by
      by_cases hjk:j=k
      ·subst hjk;rw [← h1,← h2,e]
      ·exact HALL.out j h3 h4 (by omega),fun e hll=>by
      subst hll
      exact e (h1.trans h2.symm)⟩)
    obtain ⟨r,hr⟩:∃ r,r=l[k]:=⟨_,rfl⟩
    obtain ⟨r',hr'⟩:∃ r',r'=l'[k]:=⟨_,rfl⟩
    have HE:=Lib.hid (HEQ.out r r' hr hr')
    rw [← hr] at hck
    rw [← hr'] at hck'
    have hne:=fun w=>rec_neq r r' w
    have heq:=fun w=>rec_equal r r' w
    obtain ⟨e0,e1,e2,e3,e4,e5,e6,e7,e8,e9,e10,e11,e12,e13⟩:=cells_at hck
    obtain ⟨f0,f1,f2,f3,f4,f5,f6,f7,f8,f9,f10,f11,f12,f13⟩:=cells_at hck'
    by_cases hrr:r=r'
    ·have HX:=Lib.hid (HE.out.1 hrr)
     rw [decide_eq_true hrr] at hne heq
     simp only [Bool.not_true,rv,cells] at hne heq
     clear hck hck' hr hr' hc hc' HR0 HR1 hrr HE HEQ HALL
     go_wp2
     go_quiet (fail)
     go_wp2
     go_roundw
     case rel=>exact ⟨k+1,_,by omega,by go_num,rfl,HX.out⟩
     case measure=>simp [intOf];omega
    ·have HX:=Lib.hid (HE.out.2 hrr)
     rw [decide_eq_false hrr] at hne heq
     simp only [Bool.not_false,rv,cells] at hne heq
     clear hck hck' hr hr' hc hc' HR0 HR1 hrr HE HEQ HALL
     go_wp2
     go_quiet (fail)
     go_wp2
     go_ret
     exact ⟨by rw [decide_eq_false HX.out];rfl,n+nq,by rw [World.drewN_drewN]⟩
   ·have hkl:k=l.length:=by omega
    have hll:l=l':=list_eq_of HLE.out (fun j h1 h2=>HALL.out j h1 h2 (by omega))
    subst hkl
    go_wp2
    go_ret
    exact ⟨by rw [decide_eq_true hll];rfl,_,rfl⟩
 ·have hne:decide (l=l')=false:=decide_eq_false (fun e=>hlen (by rw [e]))
  rw [hne]
  have hl1:((l.length:Int) == (l'.length:Int))=false:=beq_eq_false_iff_ne.2 (by omega)
  obtain ⟨n,hn⟩:∃ n,n=l.length:=⟨_,rfl⟩
  obtain ⟨n',hn'⟩:∃ n',n'=l'.length:=⟨_,rfl⟩
  rw [← hn] at hl1 hl ⊢
  rw [← hn'] at hl1 hl' ⊢
  clear hn hn' hne hlen h h'
  go_enter Tryz.func45,Tryz.ntmps45
  go_wp2
  go_ret
  exact ⟨rfl,0,rfl⟩
end Go.Proofs.YtgjofinbdigmcaaGreat.Rec
end
section
namespace Go.Proofs.YtgjofinbdigmcaaGreat.Rec
open Go.Proofs.YtgjofinbdigmcaaGreat.Mem Go.Proofs.YtgjofinbdigmcaaGreat.Pack Go.Proofs.YtgjofinbdigmcaaGreat.Err
open Go.ChangeShapes Go.WideShapes Go.ChangeAt Go.RowKit
def costOf (r:Rcd):Int:=if May r then (((bytesOf r).length+8:Nat):Int) else 0
theorem size_is (n:Int) (h0:0≤n) (h:n≤9000000000) (w:World):Calls Tryz.prog 63 #[.int .i64 n] w fun e w'=>e = .returned (.int .i64 (n+8))∧w=w':=by
 go_enter Tryz.func63,Tryz.ntmps63
 go_wp2
 go_ret
 exact ⟨ret_int (by omega),rfl⟩
theorem cost_any (r:Rcd) (hi:Is r) (w:World):Calls Tryz.prog 34 #[rv r] w fun e w'=>e = .returned (.int .i64 (costOf r))∧Below w.heap.size w w':=by
 have hm:=fun w=>may_any r w
 have hp:=fun hmr v len xs base w hown hb hl=>rput_any r hmr hi v len xs base w hown hb hl
 simp only [rv,cells] at hm hp ⊢
 have HP:=Lib.hid hp
 have HM:=Lib.hid hm
 clear hm hp
 go_enter Tryz.func34,Tryz.ntmps34
 go_wp2_with fail
 refine (HM.out _).mono ?_
 rintro e w1 ⟨rfl,hb1⟩
 have hbox1:Box w1 w.heap.size (cells r):=(hb1.block w.heap.size (by simp)).trans (heap_new w _)
 simp only [cells] at hbox1
 have hbw1:Below w.heap.size w w1:=((Below.refl _ w).alloc (Nat.le_refl _) _).trans (hb1.mono (by simp))
 have HBX:=Lib.hid (show _=_ from hbox1)
 have HB:=Lib.hid hbw1
 clear hb1 hbox1 hbw1
 by_cases hmr:May r
 ·rw [decide_eq_true hmr]
  have hc:costOf r=(((bytesOf r).length+8:Nat):Int):=if_pos hmr
  have hbl:=bytesOf_len hmr
  have HC:=Lib.hid hc
  clear hc
  go_wp2_with (refine wpList_load_row rfl 35 _ rfl w.heap.size rfl 35 _ (0,0) _ HBX.out Tryz.underlying35 rfl rec_size ?_)
  refine (HP.out hmr (.slice none 0 0) 0 [] w1.heap.size w1 (World.ownsRow_nil _ _ _ _) (Nat.le_refl _) (by omega)).mono ?_
  rintro e w2 ⟨v2,rfl,ho2,hb2⟩
  obtain ⟨a2,c2,rfl,hr2,hl2,-⟩:=own_shape (xs:=bytesOf r) (by simpa using ho2) (bytesOf_bytes r)
  have HB2:=Lib.hid (HB.out.trans (hb2.mono HB.out.size))
  obtain ⟨m,hm⟩:∃ m,m=(bytesOf r).length:=⟨_,rfl⟩
  rw [← hm] at hbl HC ⊢
  clear ho2 hr2 hl2 hb2 HBX hm
  go_wp2_with fail
  refine (size_is (m:Int) (by omega) (by omega) _).mono ?_
  rintro e w3 ⟨rfl,rfl⟩
  go_wp2_with fail
  go_ret
  exact ⟨by rw [HC.out];rfl,HB2.out⟩
 ·rw [decide_eq_false hmr]
  have HC:=Lib.hid (show costOf r=0 from if_neg hmr)
  go_wp2_with fail
  go_ret
  exact ⟨by rw [HC.out];rfl,HB.out⟩
theorem refCost_any (r:Rcd) (hmr:May r) (hi:Is r) (w:World):Calls Tryz.prog 40 #[rv r] w fun e w'=>e = .returned (.int .i64 (costOf r))∧Below w.heap.size w w':=by
 have hp:=fun v len xs base w hown hb hl=>rbytes_any r hmr hi v len xs base w hown hb hl
 simp only [rv,cells] at hp ⊢
 have HP:=Lib.hid hp
 have HC:=Lib.hid (show costOf r=(((bytesOf r).length+8:Nat):Int) from if_pos hmr)
 have hbl:=bytesOf_len hmr
 clear hp
 go_enter Tryz.func40,Tryz.ntmps40
 go_wp2_with fail
 refine (HP.out (.slice none 0 0) 0 [] (w.alloc (.cells (cells r) 35)).heap.size _ (World.ownsRow_nil _ _ _ _) (Nat.le_refl _) (by omega)).mono ?_
 rintro e w2 ⟨v2,rfl,ho2,hb2⟩
 obtain ⟨a2,c2,rfl,hr2,hl2,-⟩:=own_shape (xs:=bytesOf r) (by simpa using ho2) (bytesOf_bytes r)
 have HB2:=Lib.hid (((Below.refl _ w).alloc (Nat.le_refl _) _).trans (hb2.mono (by simp)))
 obtain ⟨m,hm⟩:∃ m,m=(bytesOf r).length:=⟨_,rfl⟩
 rw [← hm] at hbl HC ⊢
 clear ho2 hr2 hl2 hb2 hm
 go_wp2_with fail
 go_ret
 exact ⟨by rw [HC.out];exact ret_int (by omega),HB2.out⟩
end Go.Proofs.YtgjofinbdigmcaaGreat.Rec
end
section
namespace Go.Proofs.YtgjofinbdigmcaaGreat.Mem
open Go.RowKit
theorem flat_length {α:Type} {f:α→List Value} {k:Nat} (hf:∀ x,(f x).length=k):∀ l:List α,(l.flatMap f).length=l.length * k
 | []=>by simp
 | x :: r=>by
  rw [List.flatMap_cons,List.length_append,hf,flat_length hf r,List.length_cons,Nat.add_mul]
  omega
theorem flat_get {α:Type} {f:α→List Value} {k:Nat} (hf:∀ x,(f x).length=k):∀ {l:List α} {i j:Nat} {x:α},l[i]?=some x→j < k→(l.flatMap f)[i * k+j]?=(f x)[j]?
 | [],i,j,x,h,_=>by simp at h
 | y :: r,i,j,x,h,hj=>by
  rw [List.flatMap_cons]
  cases i with
  | zero =>
   simp at h
   subst h
   rw [Nat.zero_mul,Nat.zero_add,List.getElem?_append_left (by rw [hf];exact hj)]
  | succ i =>
   have ih:=flat_get hf (l:=r) (i:=i) (j:=j) (x:=x) (by simpa using h) hj
   rw [List.getElem?_append_right (by rw [hf,Nat.add_mul];omega),hf,Nat.add_mul,show i * k+1 * k+j - k=i * k+j by omega]
   exact ih
theorem blk_setCells {g:Nat} {t:TypeId}:∀ {vs A B C:List Value} {w:World},Blk w g t (A++B++C).toArray→B.length=vs.length→Blk (w.setCells g A.length vs) g t (A++vs++C).toArray
 | [],A,B,C,w,h,hl=>by
  have:B=[]:=List.eq_nil_of_length_eq_zero (by simpa using hl)
  subst this
  exact h
 | v :: vs,A,[],C,w,h,hl=>by simp at hl
 | v :: vs,A,b :: B,C,w,h,hl=>by
  rw [World.setCells]
  have h1:=h.set_ A.length v
  have e:((A++b :: B++C).toArray.setIfInBounds A.length v)=((A++[v])++B++C).toArray:=by
   simp [List.append_assoc]
  rw [e] at h1
  have:=blk_setCells (vs:=vs) (A:=A++[v]) (B:=B) (C:=C) h1 (by simpa using hl)
  simpa [List.append_assoc] using this
theorem but_setCells (g:Nat):∀ (vs:List Value) (o:Nat) (w:World),But (fun k=>k=g) w (w.setCells g o vs)
 | [],o,w=>But.refl _ w
 | v :: vs,o,w=>by
  rw [World.setCells]
  exact ((But.refl (fun k=>k=g) w).setCell (p:=⟨g,o,none⟩) rfl v).trans' (but_setCells g vs (o+1) _)
theorem flat_split {α:Type} {f:α→List Value} {l:List α} {i:Nat} {x:α} (h:l[i]?=some x):l.flatMap f=(l.take i).flatMap f++f x++(l.drop (i+1)).flatMap f:=by
 obtain ⟨hi,rfl⟩:=List.getElem?_eq_some_iff.1 h
 have e:l=l.take i++l[i] :: l.drop (i+1):=by rw [← List.drop_eq_getElem_cons hi,List.take_append_drop]
 have e2:=congrArg (fun l=>l.flatMap f) e
 simp only [List.flatMap_append,List.flatMap_cons] at e2
 rw [List.append_assoc]
 exact e2
theorem flat_set {α:Type} {f:α→List Value} {l:List α} {i:Nat} (y:α) (hi:i < l.length):(l.set i y).flatMap f=(l.take i).flatMap f++f y++(l.drop (i+1)).flatMap f:=by
 have e:l.set i y=l.take i++y :: l.drop (i+1):=List.set_eq_take_append_cons_drop.trans (by rw [if_pos hi])
 rw [e]
 simp [List.flatMap_append,List.append_assoc]
theorem blk_put {α:Type} {f:α→List Value} {k:Nat} (hf:∀ x,(f x).length=k) {w:World} {g:Nat} {t:TypeId} {l:List α} {i:Nat} (h:Blk w g t (l.flatMap f).toArray) (hi:i < l.length) (y:α):Blk (w.setCells g (i * k) (f y)) g t ((l.set i y).flatMap f).toArray:=by
 have hx:l[i]?=some l[i]:=List.getElem?_eq_getElem hi
 rw [flat_split hx] at h
 have:=blk_setCells (vs:=f y) h (by rw [hf,hf])
 rw [flat_length hf,List.length_take,Nat.min_eq_left (by omega)] at this
 rw [flat_set y hi]
 exact this
theorem blk_range {α:Type} {f:α→List Value} {k:Nat} (hf:∀ x,(f x).length=k) {w:World} {g:Nat} {t:TypeId} {l:List α} {i:Nat} {x:α} (h:Blk w g t (l.flatMap f).toArray) (hi:l[i]?=some x):w.rangeAt g (i * k) (f x):=by
 intro j v hv
 have hj:j < k:=by rw [← hf x];exact (List.getElem?_eq_some_iff.1 hv).1
 rw [h.cell,List.getElem?_toArray,flat_get hf hi hj]
 exact hv
theorem blk_there {α:Type} {f:α→List Value} {k:Nat} (hf:∀ x,(f x).length=k) {w:World} {g:Nat} {t:TypeId} {l:List α} {i:Nat} (h:Blk w g t (l.flatMap f).toArray) (hi:i < l.length):w.there g (i * k) k:=by
 intro j hj
 refine ⟨?_,h.frozen _⟩
 have:=(blk_range hf h (List.getElem?_eq_getElem hi)).isSome j (by rw [hf];exact hj)
 exact this
theorem blk_there0 {w:World} {g n:Nat} {t:TypeId} {cs:List Value} (h:Blk w g t cs.toArray) (hn:cs.length=n):w.there g 0 n:=by
 intro j hj
 refine ⟨?_,h.frozen _⟩
 rw [h.cell,List.getElem?_toArray,Nat.zero_add,List.getElem?_eq_getElem (by omega)]
 rfl
theorem blk_set0 {w:World} {g:Nat} {t:TypeId} {cs vs:List Value} (h:Blk w g t cs.toArray) (hl:cs.length=vs.length):Blk (w.setCells g 0 vs) g t vs.toArray:=by
 have:=blk_setCells (vs:=vs) (A:=[]) (B:=cs) (C:=[]) (w:=w) (g:=g) (t:=t) (by simpa using h) hl
 simpa using this
theorem blk_range0 {w:World} {g:Nat} {t:TypeId} {A B:List Value} (h:Blk w g t (A++B).toArray):w.rangeAt g A.length B:=by
 intro j v hv
 rw [h.cell,List.getElem?_toArray,List.getElem?_append_right (by omega),Nat.add_sub_cancel_left]
 exact hv
end Go.Proofs.YtgjofinbdigmcaaGreat.Mem
end
section
namespace Go.Proofs.YtgjofinbdigmcaaGreat.Buk
open Go.Proofs.YtgjofinbdigmcaaGreat.Mem
abbrev Ent:=Key.Ent
abbrev Tab:=Key.Tab
abbrev It:=Exp.It
abbrev Rcd:=Rec.Rcd
def of (e:Ent):Int:=(e.key.size:Int)+e.size
def all (T:Tab):List Ent:=T.filterMap id
def tot:List Ent→Int
 | []=>0
 | e :: l=>of e+tot l
theorem tot_perm {l l':List Ent} (h:l.Perm l'):tot l=tot l':=by
 induction h with
 | nil=>rfl
 | cons x _ ih=>simp only [tot,ih]
 | swap x y l=>simp only [tot];omega
 | trans _ _ h1 h2=>exact h1.trans h2
theorem mem_all {T:Tab} {e:Ent}:e ∈ all T ↔ some e ∈ T:=by simp [all]
theorem all_apart {T:Tab} (hw:Key.WF T):(all T).Pairwise fun x y=>x.key≠y.key:=by
 unfold all
 rw [List.pairwise_filterMap,List.pairwise_iff_getElem]
 intro i j hi hj hij b hb b' hb' hk
 have e:∀ k (h:k < T.length),Key.look T k=T[k]:=fun k h=>by simp [Key.look,List.getD,h]
 have:=Key.look_one hw (i:=i) (j:=j) ((e i hi).trans hb) ((e j hj).trans hb') hk
 omega
theorem nodup_of {l:List Ent} (h:l.Pairwise fun x y=>x.key≠y.key):l.Nodup:=h.imp fun hk e=>hk (by rw [e])
theorem perm_of {l l':List Ent} (h:l.Pairwise fun x y=>x.key≠y.key) (h':l'.Pairwise fun x y=>x.key≠y.key) (hm:∀ e,e ∈ l ↔ e ∈ l'):l.Perm l':=(List.perm_ext_iff_of_nodup (nodup_of h) (nodup_of h')).2 hm
theorem mem_ask {T:Tab} {i:Nat} (h:Key.Good T i) {e:Ent}:e ∈ all T ↔ Key.ask T e.key=some e:=by
 rw [mem_all,Key.ask_iff h.wf h.free]
 exact ⟨fun a=>⟨a,rfl⟩,fun a=>a.1⟩
def but (s:ByteArray) (l:List Ent):List Ent:=l.filter fun f=>decide (f.key≠s)
theorem mem_but {s:ByteArray} {l:List Ent} {e:Ent}:e ∈ but s l ↔ e ∈ l∧e.key≠s:=by simp [but]
theorem but_apart {s:ByteArray} {l:List Ent} (h:l.Pairwise fun x y=>x.key≠y.key):(but s l).Pairwise fun x y=>x.key≠y.key:=h.sublist (List.filter_sublist ..)
theorem all_put {T:Tab} {i:Nat} (h:Key.Good T i) (e:Ent):(all (Key.put T e)).Perm (e :: but e.key (all T)):=by
 refine perm_of (all_apart (h.put e).wf) (List.pairwise_cons.2 ⟨fun f hf hk=>(mem_but.1 hf).2 hk.symm,but_apart (all_apart h.wf)⟩) (fun f=>?_)
 rw [mem_ask (h.put e),Key.ask_put h,List.mem_cons,mem_but,mem_ask h]
 by_cases hk:f.key=e.key
 ·rw [if_pos hk]
  exact ⟨fun a => .inl (Option.some.inj a).symm,fun a=>by
   rcases a with a|a
   ·rw [a]
   ·exact absurd hk a.2⟩
 ·rw [if_neg hk]
  exact ⟨fun a => .inr ⟨a,hk⟩,fun a=>by
   rcases a with a|a
   ·exact absurd (by rw [a]) hk
   ·exact a.1⟩
theorem all_del {T:Tab} {i:Nat} (h:Key.Good T i) (s:ByteArray):(all (Key.del T s)).Perm (but s (all T)):=by
 refine perm_of (all_apart (h.del s).wf) (but_apart (all_apart h.wf)) (fun f=>?_)
 rw [mem_ask (h.del s),Key.ask_del h,mem_but,mem_ask h]
 by_cases hk:f.key=s
 ·rw [if_pos hk]
  exact ⟨fun a=>(by cases a),fun a=>absurd hk a.2⟩
 ·rw [if_neg hk]
  exact ⟨fun a=>⟨a,hk⟩,fun a=>a.1⟩
theorem all_ask {T:Tab} {i:Nat} (h:Key.Good T i) {s:ByteArray} {e:Ent} (ha:Key.ask T s=some e):(all T).Perm (e :: but s (all T)):=by
 have hk:=((Key.ask_iff h.wf h.free).1 ha).2
 refine perm_of (all_apart h.wf) (List.pairwise_cons.2 ⟨fun f hf h1=>(mem_but.1 hf).2 (h1.symm.trans hk),but_apart (all_apart h.wf)⟩) (fun f=>?_)
 rw [List.mem_cons,mem_but]
 by_cases hs:f.key=s
 ·rw [mem_ask h,hs,ha]
  exact ⟨fun a => .inl (Option.some.inj a).symm,fun a=>by
   rcases a with a|a
   ·rw [a]
   ·exact absurd rfl a.2⟩
 ·exact ⟨fun a => .inr ⟨a,hs⟩,fun a=>by
   rcases a with a|a
   ·exact absurd (a ▸ hk) hs
   ·exact a.1⟩
theorem all_none {T:Tab} {i:Nat} (h:Key.Good T i) {s:ByteArray} (ha:Key.ask T s=none):but s (all T)=all T:=by
 unfold but
 rw [List.filter_eq_self]
 intro f hf
 refine decide_eq_true (fun hk=>?_)
 rw [mem_ask h,hk,ha] at hf
 cases hf
theorem of_zero:of Key.zero=0:=rfl
theorem tot_but {T:Tab} {i:Nat} (h:Key.Good T i) (s:ByteArray):tot (but s (all T))=tot (all T) - of (Key.ent (Key.ask T s)):=by
 cases ha:Key.ask T s with
 | none=>rw [all_none h ha];show _=_ - of Key.zero;rw [of_zero];omega
 | some e=>rw [tot_perm (all_ask h ha)];show _=of e+tot _ - of e;omega
theorem tot_put {T:Tab} {i:Nat} (h:Key.Good T i) (e:Ent):tot (all (Key.put T e))=tot (all T)+(of e - of (Key.ent (Key.ask T e.key))):=by
 rw [tot_perm (all_put h e)]
 show of e+tot _=_
 rw [tot_but h]
 omega
theorem tot_del {T:Tab} {i:Nat} (h:Key.Good T i) (s:ByteArray):tot (all (Key.del T s))=tot (all T) - of (Key.ent (Key.ask T s)):=by
 rw [tot_perm (all_del h s),tot_but h]
theorem all_length (T:Tab):(all T).length=Key.cnt T:=by
 unfold all Key.cnt
 rw [List.length_filterMap_eq_countP]
 rfl
theorem good_del {T:Tab} {i:Nat} (h:Key.Good T i) (s:ByteArray):Key.Good (Key.del T s) i:=by
 have h1:=h.del s
 refine ⟨h1.wf,h1.pow,h1.load,?_,?_⟩
 ·have:=Key.cnt_del h s
  have:=h.few
  omega
 ·have h2:(Key.del T s).length=T.length:=by
   cases ha:Key.ask T s with
   | none=>rw [Key.del_none ha]
   | some e =>
    rw [Key.del_some ha]
    exact (Key.gone_all h.wf h.free ha).2.1
  rw [h2]
  exact h.size
structure OkE (e:Ent):Prop where
 key:1≤e.key.size∧e.key.size≤64
 size:0≤e.size∧e.size≤1000
 seg : -9223372036854775808≤e.seg∧e.seg≤9223372036854775807
 at_ : -9223372036854775808≤e.at_∧e.at_≤9223372036854775807
 len : -9223372036854775808≤e.len∧e.len≤9223372036854775807
 ver:e.ver < 18446744073709551616
 exp:e.exp < 18446744073709551616
def OkT (T:Tab):Prop:=∀ e,some e ∈ T→OkE e
theorem of_ok {e:Ent} (h:OkE e):0≤of e∧of e≤1064:=by
 have:=h.key
 have:=h.size
 unfold of
 omega
theorem tot_ok:∀ {l:List Ent},(∀ e ∈ l,OkE e)→0≤tot l∧tot l≤1064 * (l.length:Int)
 | [],_=>by simp [tot]
 | e :: l,h=>by
  have h1:=of_ok (h e (List.mem_cons_self ..))
  have h2:=tot_ok (l:=l) (fun f hf=>h f (List.mem_cons_of_mem _ hf))
  simp only [tot,List.length_cons]
  omega
theorem OkT.tot {T:Tab} {i:Nat} (h:OkT T) (hg:Key.Good T i):0≤Buk.tot (all T)∧Buk.tot (all T)≤1064 * (i:Int):=by
 have h1:=tot_ok (l:=all T) (fun e he=>h e (mem_all.1 he))
 have h2:=all_length T
 have h3:=hg.few
 omega
theorem OkT.ask {T:Tab} {i:Nat} (h:OkT T) (hg:Key.Good T i) {s:ByteArray} {e:Ent} (ha:Key.ask T s=some e):OkE e:=h e ((Key.ask_iff hg.wf hg.free).1 ha).1
theorem OkT.of_ask {T:Tab} {i:Nat} (h:OkT T) (hg:Key.Good T i) (s:ByteArray):0≤of (Key.ent (Key.ask T s))∧of (Key.ent (Key.ask T s))≤1064:=by
 cases ha:Key.ask T s with
 | none=>show 0≤of Key.zero∧_;rw [of_zero];show _∧of Key.zero≤_;rw [of_zero];omega
 | some e=>exact of_ok (h.ask hg ha)
theorem OkT.put {T:Tab} {i:Nat} (h:OkT T) (hg:Key.Good T i) {e:Ent} (he:OkE e):OkT (Key.put T e):=fun f hf=>by
 rcases List.mem_cons.1 ((all_put hg e).subset (mem_all.2 hf)) with h1|h1
 ·rw [h1];exact he
 ·exact h f (mem_all.1 (mem_but.1 h1).1)
theorem OkT.del {T:Tab} {i:Nat} (h:OkT T) (hg:Key.Good T i) (s:ByteArray):OkT (Key.del T s):=fun f hf=>h f (mem_all.1 (mem_but.1 ((all_del hg s).subset (mem_all.2 hf))).1)
def Cov (T:Tab) (m:List It):Prop:=∀ e,some e ∈ T→e.exp≠0→(⟨e.exp,e.key⟩:It) ∈ m
theorem Cov.put {T:Tab} {m m':List It} {i:Nat} (h:Cov T m) (hg:Key.Good T i) {e:Ent} (hm:∀ x ∈ m,x ∈ m') (he:e.exp≠0→(⟨e.exp,e.key⟩:It) ∈ m'):Cov (Key.put T e) m':=fun f hf h0=>by
 rcases List.mem_cons.1 ((all_put hg e).subset (mem_all.2 hf)) with h1|h1
 ·rw [h1] at h0 ⊢; exact he h0
 ·exact hm _ (h f (mem_all.1 (mem_but.1 h1).1) h0)
theorem Cov.del {T:Tab} {m:List It} {i:Nat} (h:Cov T m) (hg:Key.Good T i) (s:ByteArray):Cov (Key.del T s) m:=fun f hf h0=>h f (mem_all.1 (mem_but.1 ((all_del hg s).subset (mem_all.2 hf))).1) h0
structure Bk where
 id:Int
 gen:Nat
 q1:Int
 q2:Int
 q3:Int
 seq:Nat
 serial:Nat
 bytes:Int
 charged:Int
 toks:List Rgt.Tok
structure Ok (B:Bk) (T:Tab) (m:List It) (i:Nat):Prop where
 bytes:B.bytes=tot (all T)
 cov:Cov T m
 few:m.length≤i
 okm:∀ x ∈ m,(0 < x.time∧x.time < 18446744073709551616)∧x.key.size≤64
 okt:OkT T
 id : -9223372036854775808≤B.id∧B.id≤9223372036854775807
 gen:B.gen < 4294967296
 seq:B.seq < 18446744073709551616
 serial:B.serial < 4294967296
 charged:0≤B.charged∧B.charged≤2000 * (i:Int)
def isOf (T:Tab) (x:It):Bool:=match Key.ask T x.key with
 | some e=>decide (e.exp=x.time)
 | none=>false
theorem Cov.less {T:Tab} {m m':List It} {i:Nat} (h:Cov T m) (hg:Key.Good T i) (hm:∀ x ∈ m,isOf T x=true→x ∈ m'):Cov T m':=fun e he h0=>by
 refine hm _ (h e he h0) ?_
 unfold isOf
 rw [(Key.ask_iff hg.wf hg.free).2 ⟨he,rfl⟩]
 exact decide_eq_true rfl
def bump (top c n:Nat):Nat:=max c (min (n+1) top)
def b64:Nat→Nat→Nat:=bump 18446744073709551615
def b32:Nat→Nat→Nat:=bump 4294967295
theorem bump_le {top c n:Nat} (h:c≤top):bump top c n≤top:=by unfold bump;omega
abbrev Spt:=Int × Int × Int
def entOf (r:Rcd) (p:Spt):Ent:=⟨r.key,p.1,p.2.1,p.2.2,r.version,r.expiry,r.val.size⟩
def tokOf (r:Rcd):Rgt.Tok:=⟨r.serial,r.rights,r.secret⟩
def Own (B:Bk) (r:Rcd):Prop:=Rec.May r∧r.bucket=B.id∧r.gen=B.gen
instance (B:Bk) (r:Rcd):Decidable (Own B r):=by unfold Own;infer_instance
def told (B:Bk) (r:Rcd):Bool:=decide (Own B r) && (r.kind == 1 || r.kind == 3 || r.kind == 4 || (r.kind == 5 && decide (Rgt.putErr r.serial r.rights B.toks=0)) || r.kind == 6)
def made (B:Bk) (r:Rcd):Bk :=
 if r.kind=1 then { B with q1:=r.keys,q2:=r.bytes,q3:=r.budget,seq:=r.seq,serial:=r.serial }
 else if r.kind=3∨r.kind=4 then { B with seq:=b64 B.seq r.version,charged:=B.charged+Rec.costOf r }
 else if r.kind=5 then { B with serial:=b32 B.serial r.serial,toks:=Rgt.put (tokOf r) B.toks,charged:=B.charged+Rec.costOf r }
 else { B with toks:=Rgt.del r.serial B.toks,charged:=B.charged+Rec.costOf r }
def madeT (T:Tab) (r:Rcd) (p:Spt):Tab:=if r.kind=3 then Key.put T (entOf r p) else if r.kind=4 then Key.del T r.key else T
def app (B:Bk) (T:Tab) (r:Rcd) (p:Spt):Bk:=if told B r then { made B r with bytes:=tot (all (madeT T r p)) } else B
def appT (B:Bk) (T:Tab) (r:Rcd) (p:Spt):Tab:=if told B r then madeT T r p else T
end Go.Proofs.YtgjofinbdigmcaaGreat.Buk
end

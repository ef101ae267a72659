/- Contracts of pack.PutText and of the reference's Put and Text: what they append to a row of the caller's own. Contracts of pack's reader: New, Number, Text, Left, Short: what they answer, and what bytes are left behind them. Contracts of the reference's reader: they answer as the reader of layer 2 does. The reference's Text answers as the reader's of layer 2 does. Words on layer 2's readers that the layers above it use. (These stand in PackUp, PackPuts, PackBack and PackReads too: import those or this.) Records: what one is, its bytes, whether it may be, and what bytes are read as. -/
import Derived.Test.YtbhoknnjilidnaaGreatDoorG03
import Derived.Deep.QuietTactic
import Derived.BigQuiet
set_option linter.unusedVariables false
set_option maxHeartbeats 1000000
set_option maxRecDepth 100000
section
namespace Go.Proofs.YtbhoknnjilidnaaGreatDoor.Pack
open Go.Proofs.YtbhoknnjilidnaaGreatDoor.Mem
open Go.ChangeShapes Go.WideShapes Go.ChangeAt Go.RowKit
theorem refPut_any (n:Nat) (hn:n < 18446744073709551616) (k:Nat) (h8:k≤8) (v:Value) (len:Nat) (xs:List Int) (base:Nat) (w:World)
  (hown:w.ownsRow base 5 1 v len (cellsOf xs)) (hb:base≤w.heap.size) (hl:len≤1073741824) :
  Calls Tryz.prog 89 #[v,.int .u64 (n:Int),.int .i64 (k:Int)] w fun e w'=>∃ v',e = .returned v'∧w'.ownsRow base 5 1 v' (len+k) (cellsOf (xs++put n k))∧Onto w w' v v':=by
 obtain ⟨i0,hi0,hz0,hz1,hz2⟩:=info_parts u8_info
 go_enter Tryz.func89,Tryz.ntmps89
 go_wp2
 go_loopw [0,1,7] (fun v' m' i wr=>∃ (m j:Nat) (ys:List Int),j≤k∧i = .int .i64 (j:Int)∧m' = .int .u64 (m:Int)∧wr.ownsRow base 5 1 v' (len+j) (cellsOf ys)∧Onto w wr v v'∧ys++put m (k - j)=xs++put n k∧m < 18446744073709551616∧base≤wr.heap.size) (fun _ _ i _=>k - (intOf i).toNat)
 case atStart=>exact ⟨n,0,xs,by omega,rfl,rfl,hown,Onto.refl _ _,rfl,hn,hb⟩
 case round =>
  obtain ⟨m,j,ys,hj,rfl,rfl,ho,hon,hys,hm,hbr⟩:=hrel
  have HYS:=Lib.hid hys
  clear hys
  by_cases hlt:j < k
  ·go_wp2_with (at_builtin;refine wpList_append_onto rfl (.tmp 17) (.tmp 21) _ rfl base 5 i0 _ 1 1 Tryz.underlying81 hi0 hz0 hz1 hz2 rfl (by omega) u0 (len+j) (cellsOf ys) rfl (ownsRow_alloc ho _) _ 1 _ rfl (sees_one _ _ _ _) (by simp [Value.oneCell']) (by simp only [maxLen];omega) (by omega) (by simp;omega) ?_;intro v2 w2 ho2 hon2)
   have e2:(m:Int) / 256=((m / 256:Nat):Int):=by omega
   rw [e2]
   go_roundw
   case rel =>
    refine ⟨m / 256,j+1,ys++[((m % 256:Nat):Int)],by omega,by go_num,rfl,?_,hon.trans (hon2.of_alloc (fun k hk=>(ho.lt k hk).2)),?_,by omega,?_⟩
    ·rw [cellsOf_append];exact ho2
    ·exact next_step (j:=k - (j+1)) (by rw [show k - (j+1)+1=k - j by omega];exact HYS.out)
    ·have:=hon2.grown.size;simp at this;omega
   case measure=>simp [intOf];omega
  ·have hjk:j=k:=by omega
   subst hjk
   go_wp2
   go_ret
   refine ⟨_,rfl,?_,hon⟩
   have e5:=HYS.out
   rw [Nat.sub_self,put,List.append_nil] at e5
   rw [← e5]
   exact ho
def cut (s:ByteArray):ByteArray:=if 65535 < s.size then s.extract 0 65535 else s
theorem strBytes_take (T:ByteArray) (j:Nat) (h:j < T.size):(strBytes T).take (j+1)=(strBytes T).take j++[((T[j]).toNat:Int)]:=by
 have hl:j < (strBytes T).length:=by rw [strBytes_length];exact h
 rw [List.take_succ_eq_append_getElem hl]
 have e:(strBytes T)[j]'hl=((T[j]).toNat:Int):=(List.getElem_map (f:=fun b:UInt8=>(b.toNat:Int)) (l:=T.data.toList) (i:=j) (h:=hl)).trans rfl
 rw [e]
theorem strBytes_all (T:ByteArray) {j:Nat} (h:¬ j < T.size):(strBytes T).take j=strBytes T:=List.take_of_length_le (by rw [strBytes_length];omega)
def AtText (w:World) (v:Value) (base len:Nat) (xs:List Int) (T:ByteArray) (a':Act) (w':World):Prop :=
 ∃ (v':Value) (j:Nat) (u6 u7 u8 u9 u10 u11 u12 u13 u14 u15 u16 u17 u18 u19 u20 u21 u22 u23 u24 u25 u26 u27 u28:Value),a'={ tmps := #[v',.string T,undef,undef,.slice none 0 0,.int .i64 (j:Int),u6,u7,u8,u9,u10,u11,u12,u13,u14,u15,u16,u17,u18,u19,u20,u21,u22,u23,u24,u25,u26,u27,u28],defers:=[] }∧j≤T.size ∧
  w'.ownsRow base 5 1 v' (len+2+j) (cellsOf (xs++put T.size 2++(strBytes T).take j))∧Onto w w' v v'∧base≤w'.heap.size
theorem putText_any (s T:ByteArray) (hT:T=cut s) (v:Value) (len:Nat) (xs:List Int) (base:Nat) (w:World)
  (hown:w.ownsRow base 5 1 v len (cellsOf xs)) (hb:base≤w.heap.size) (hl:len≤1073741824) (hs:s.size≤140737488355328) :
  Calls Tryz.prog 96 #[v,.string s] w fun e w'=>∃ v',e = .returned v'∧w'.ownsRow base 5 1 v' (len+2+T.size) (cellsOf (xs++put T.size 2++strBytes T))∧Onto w w' v v':=by
 obtain ⟨i0,hi0,hz0,hz1,hz2⟩:=info_parts u8_info
 have HT:=Lib.hid hT
 have hTs:T.size≤65535:=by
  rw [hT,cut]
  split
  ·rw [ByteArray.size_extract];omega
  ·omega
 clear hT
 go_enter Tryz.func96,Tryz.ntmps96
 go_wp2
 refine scope_label 0 (AtText w v base len xs T) (fun a' _=>T.size - (intOf (a'.tmps.getD 5 undef)).toNat) rfl ?_ ?_
 ·rintro a' wr ⟨v',j,u6,u7,u8,u9,u10,u11,u12,u13,u14,u15,u16,u17,u18,u19,u20,u21,u22,u23,u24,u25,u26,u27,u28,rfl,hj,ho,hon,hbr⟩
  by_cases hlt:j < T.size
  ·go_wp2_with (at_builtin;refine wpList_append_onto rfl (.tmp 20) (.tmp 24) _ rfl base 5 i0 _ 1 1 Tryz.underlying81 hi0 hz0 hz1 hz2 rfl (by omega) v' (len+2+j) (cellsOf (xs++put T.size 2++(strBytes T).take j)) rfl (ownsRow_alloc ho _) _ 1 _ rfl (sees_one _ _ _ _) (by simp [Value.oneCell']) (by simp only [maxLen];omega) (by omega) (by simp;omega) ?_;intro v2 w2 ho2 hon2)
   have e3:(j:Int)+1=((j+1:Nat):Int):=by omega
   rw [e3]
   go_step3
   refine ⟨rfl,⟨v2,j+1,_,_,_,_,_,_,_,_,_,_,_,_,_,_,_,_,_,_,_,_,_,_,_,rfl,by omega,?_,hon.trans (hon2.of_alloc (fun k hk=>(ho.lt k hk).2)),?_⟩,?_⟩
   ·rw [strBytes_take T j hlt,← List.append_assoc,cellsOf_append (xs++put T.size 2++(strBytes T).take j)]
    exact ho2
   ·have:=hon2.grown.size;simp at this;omega
   ·simp [intOf];omega
  ·have hj0:j=T.size:=by omega
   rw [strBytes_all T hlt] at ho
   subst hj0
   go_wp2
   simp only [Exit.jump]
   go_ret
   exact ⟨_,rfl,ho,hon⟩
 ·intro hrest
  have HR:=Lib.hid hrest
  clear hrest
  by_cases h:65535 < s.size
  ·have hTe:T=s.extract 0 65535:=by rw [HT.out,cut,if_pos h]
   have hsz:T.size=min 65535 s.size:=by rw [hTe,ByteArray.size_extract];omega
   have HSZ:=Lib.hid hsz
   have HTE:=Lib.hid hTe
   clear hsz hTe
   go_wp2_with (go_at_call 65;refine (put_any (min 65535 s.size) (by omega) 2 (by omega) (by omega) v len xs base w hown hb hl).mono ?_;rintro e w1 ⟨v1,rfl,ho1,hon1⟩)
   go_step3
   rename_i hK
   refine hK _ _ (HR.out _ _ ?_)
   rw [← HTE.out]
   refine ⟨v1,0,_,_,_,_,_,_,_,_,_,_,_,_,_,_,_,_,_,_,_,_,_,_,_,rfl,by omega,?_,hon1,?_⟩
   ·rw [← HSZ.out] at ho1
    simpa using ho1
   ·have:=hon1.grown.size;omega
  ·have hTe:T=s:=by rw [HT.out,cut,if_neg h]
   subst hTe
   go_wp2_with (go_at_call 65;refine (put_any T.size (by omega) 2 (by omega) (by omega) v len xs base w hown hb hl).mono ?_;rintro e w1 ⟨v1,rfl,ho1,hon1⟩)
   go_step3
   rename_i hK
   refine hK _ _ (HR.out _ _ ?_)
   refine ⟨v1,0,_,_,_,_,_,_,_,_,_,_,_,_,_,_,_,_,_,_,_,_,_,_,_,rfl,by omega,?_,hon1,?_⟩
   ·simpa using ho1
   ·have:=hon1.grown.size;omega
theorem grown_onto {w w1 w2:World} {v v1:Value} (h:Onto w w1 v v1) (k:w1.grownBy w2 v1.ownBlock):w.grownBy w2 v.ownBlock:=by
 have hs:=h.grown.size
 refine ⟨k.os.trans h.grown.os,k.tape.trans h.grown.tape,k.output.trans h.grown.output,Nat.le_trans hs k.size,fun i hi hne=>?_⟩
 refine (k.block i (by omega) (fun e=>?_)).trans (h.grown.block i hi hne)
 rcases h.own with h1|h1
 ·exact hne (e.trans h1)
 ·have:=h1 i e.symm;omega
theorem refText_grown (s T:ByteArray) (hT:T=cut s) (v:Value) (len:Nat) (xs:List Int) (base:Nat) (w:World)
  (hown:w.ownsRow base 5 1 v len (cellsOf xs)) (hb:base≤w.heap.size) (hl:len≤1073741824) (hs:s.size≤140737488355328) :
  Calls Tryz.prog 90 #[v,.string s] w fun e w'=>∃ v',e = .returned v'∧w'.ownsRow base 5 1 v' (len+2+T.size) (cellsOf (xs++put T.size 2++strBytes T))∧w.grownBy w' v.ownBlock:=by
 obtain ⟨i0,hi0,hz0,hz1,hz2⟩:=info_parts u8_info
 have HT:=Lib.hid hT
 have hTs:T.size≤65535:=by
  rw [hT,cut]
  split
  ·rw [ByteArray.size_extract];omega
  ·omega
 clear hT
 by_cases h:65535 < s.size
 ·have hTe:T=s.extract 0 65535:=by rw [HT.out,cut,if_pos h]
  have hsz:T.size=min 65535 s.size:=by rw [hTe,ByteArray.size_extract];omega
  have HSZ:=Lib.hid hsz
  have HTE:=Lib.hid hTe
  clear hsz hTe
  go_enter Tryz.func90,Tryz.ntmps90
  go_wp2_with (first
   | (go_at_call 89;refine (refPut_any (min 65535 s.size) (by omega) 2 (by omega) v len xs base w hown hb hl).mono ?_;rintro e w1 ⟨v1,rfl,ho1,hon1⟩)
   | (at_builtin;refine wpList_append_str_grown rfl (.tmp 14) (.tmp 15) _ _ rfl base 5 i0 Tryz.underlying81 Tryz.underlying9 hi0 hz0 hz1 hz2 v1 (len+2) _ rfl ho1 (s.extract 0 65535) rfl (by rw [← HTE.out];simp only [maxLen];omega) (by rw [← HTE.out];omega) (by have:=hon1.grown.size;omega) ?_;intro v2 w2 ho2 hb2))
  go_ret
  refine ⟨_,rfl,?_,grown_onto hon1 hb2⟩
  rw [← HTE.out,← HSZ.out,← cellsOf_append] at ho2
  exact ho2
 ·have hTe:T=s:=by rw [HT.out,cut,if_neg h]
  subst hTe
  go_enter Tryz.func90,Tryz.ntmps90
  go_wp2_with (first
   | (go_at_call 89;refine (refPut_any T.size (by omega) 2 (by omega) v len xs base w hown hb hl).mono ?_;rintro e w1 ⟨v1,rfl,ho1,hon1⟩)
   | (at_builtin;refine wpList_append_str_grown rfl (.tmp 14) (.tmp 15) _ _ rfl base 5 i0 Tryz.underlying81 Tryz.underlying9 hi0 hz0 hz1 hz2 v1 (len+2) _ rfl ho1 T rfl (by simp only [maxLen];omega) (by omega) (by have:=hon1.grown.size;omega) ?_;intro v2 w2 ho2 hb2))
  go_ret
  refine ⟨_,rfl,?_,grown_onto hon1 hb2⟩
  rw [← cellsOf_append] at ho2
  exact ho2
end Go.Proofs.YtbhoknnjilidnaaGreatDoor.Pack
end
section
namespace Go.Proofs.YtbhoknnjilidnaaGreatDoor.Pack
open Go.Proofs.YtbhoknnjilidnaaGreatDoor.Mem
open Go.ChangeShapes Go.WideShapes Go.ChangeAt Go.RowKit
def Rd (w:World) (p D:Nat) (zs:List Int) (short:Bool):Prop :=
 w.cell? ⟨p,1,none⟩=some (.bool short)∧w.frozen? ⟨p,0,none⟩=false∧w.frozen? ⟨p,1,none⟩=false∧zs.length≤1073741824∧Bytes zs ∧
 ((w.cell? ⟨p,0,none⟩=some (.slice none 0 0)∧zs=[]) ∨
  ∃ off cap,D≠p∧w.cell? ⟨p,0,none⟩=some (.slice (some ⟨D,off,none⟩) zs.length cap)∧zs.length≤cap∧cap≤maxLen∧Row w (some ⟨D,off,none⟩) zs.length zs)
theorem Rd.but {S:Nat→Prop} {w w':World} {p D:Nat} {zs:List Int} {short:Bool} (h:Rd w p D zs short) (hb:But S w w') (hp:¬ S p) (hd:¬ S D):Rd w' p D zs short:=by
 obtain ⟨h1,h2,h3,h4,h5,h6⟩:=h
 have hlt:p < w.heap.size:=World.block_lt_of_cell? w ⟨p,1,none⟩ h1
 have c0:=hb.cell (p:=⟨p,0,none⟩) hlt hp
 have c1:=hb.cell (p:=⟨p,1,none⟩) hlt hp
 refine ⟨c1.trans h1,(hb.frozen (p:=⟨p,0,none⟩) hlt hp).trans h2,(hb.frozen (p:=⟨p,1,none⟩) hlt hp).trans h3,h4,h5,?_⟩
 rcases h6 with ⟨h6,h7⟩|⟨off,cap,hbp,hc,hl,hm,hr⟩
 ·exact .inl ⟨c0.trans h6,h7⟩
 ·exact .inr ⟨off,cap,hbp,c0.trans hc,hl,hm,hr.but hb (fun q hq hn=>by injection hq with hq;subst hq;exact hd)⟩
theorem cell_ne {w:World} {a b:Addr} {v u:Value} (h:w.cell? b=some u) (hne:a≠b):(w.setCell a v).cell? b=some u:=(World.cell?_setCell_other _ _ _ _ hne).trans h
theorem row_setCell {w:World} {x:Option Addr} {len:Nat} {zs:List Int} (h:Row w x len zs) {p:Addr} (v:Value) (hp:∀ q,x=some q→0 < len→q.block≠p.block):Row (w.setCell p v) x len zs :=
 h.but (S:=fun k=>k=p.block) ((But.refl (fun k=>k=p.block) w).setCell (p:=p) rfl v) (fun q hq hn=>hp q hq hn)
theorem rd_short {w:World} {p D:Nat} {u0 u1:Value} (h0:w.cell? ⟨p,0,none⟩=some u0) (h1:w.cell? ⟨p,1,none⟩=some u1) (h2:w.frozen? ⟨p,0,none⟩=false) (h3:w.frozen? ⟨p,1,none⟩=false) :
  Rd ((w.setCell ⟨p,0,none⟩ (.slice none 0 0)).setCell ⟨p,1,none⟩ (.bool true)) p D [] true:=by
 refine ⟨?_,?_,?_,by simp,bytes_nil,.inl ⟨?_,rfl⟩⟩
 ·exact World.cell?_setCell_same _ _ _ (cell_ne h1 (by simp))
 ·rw [World.frozen?_setCell,World.frozen?_setCell];exact h2
 ·rw [World.frozen?_setCell,World.frozen?_setCell];exact h3
 ·exact cell_ne (World.cell?_setCell_same _ _ _ h0) (by simp)
theorem but_two (w:World) (p i j:Nat) (u v:Value):But (fun b=>b=p) w ((w.setCell ⟨p,i,none⟩ u).setCell ⟨p,j,none⟩ v) :=
 ((But.refl (fun b=>b=p) w).setCell (p:=⟨p,i,none⟩) rfl u).setCell (p:=⟨p,j,none⟩) rfl v
theorem but_one (w:World) (p i:Nat) (u:Value):But (fun b=>b=p) w (w.setCell ⟨p,i,none⟩ u) :=
 (But.refl (fun b=>b=p) w).setCell (p:=⟨p,i,none⟩) rfl u
theorem rd_taken {w:World} {p:Nat} {zs:List Int} {short:Bool} {b off cap k:Nat} (h0:w.cell? ⟨p,0,none⟩=some (.slice (some ⟨b,off,none⟩) zs.length cap)) (h1:w.cell? ⟨p,1,none⟩=some (.bool short)) (h2:w.frozen? ⟨p,0,none⟩=false) (h3:w.frozen? ⟨p,1,none⟩=false)
  (h4:zs.length≤1073741824) (h5:Bytes zs) (hbp:b≠p) (hl:zs.length≤cap) (hm:cap≤maxLen) (hr:Row w (some ⟨b,off,none⟩) zs.length zs) (hk:k≤zs.length) (off':Nat) (ho:k < zs.length→off'=off+k) (len' cap':Nat) (hlen:len'=zs.length - k) (hc1:zs.length - k≤cap') (hc2:cap'≤maxLen) :
  Rd (w.setCell ⟨p,0,none⟩ (.slice (some ⟨b,off',none⟩) len' cap')) p b (zs.drop k) short∧Row (w.setCell ⟨p,0,none⟩ (.slice (some ⟨b,off',none⟩) len' cap')) (some ⟨b,off,none⟩) (zs.take k).length (zs.take k):=by
 subst hlen
 have hdl:(zs.drop k).length=zs.length - k:=by simp
 have htl:(zs.take k).length=k:=by rw [List.length_take];omega
 have hrow:Row (w.setCell ⟨p,0,none⟩ (.slice (some ⟨b,off',none⟩) (zs.length - k) cap')) (some ⟨b,off,none⟩) zs.length zs:=row_setCell hr _ (fun q hq _=>by injection hq with hq;subst hq;exact hbp)
 refine ⟨⟨cell_ne h1 (by simp),by rw [World.frozen?_setCell];exact h2,by rw [World.frozen?_setCell];exact h3,by omega,bytes_drop h5 k,.inr ⟨off',cap',hbp,?_,by omega,hc2,?_⟩⟩,?_⟩
 ·rw [hdl];exact World.cell?_setCell_same _ _ _ h0
 ·refine ⟨rfl,bytes_drop h5 k,fun hn=>?_⟩
  rw [hdl] at hn
  obtain ⟨b',o',hq,hlt,hc⟩:=hrow.2.2 (by omega)
  injection hq with hq
  injection hq with hq1 hq2
  subst hq1 hq2
  refine ⟨b,off',rfl,hlt,fun i hi=>?_⟩
  rw [hdl] at hi
  have e:=hc (k+i) (by omega)
  rw [← Nat.add_assoc,← ho (by omega)] at e
  rw [e]
  simp [List.getD,List.getElem?_drop]
 ·refine ⟨rfl,bytes_take h5 k,fun hn=>?_⟩
  rw [htl] at hn
  obtain ⟨b',o',hq,hlt,hc⟩:=hrow.2.2 (by omega)
  injection hq with hq
  injection hq with hq1 hq2
  subst hq1 hq2
  refine ⟨b,off,rfl,hlt,fun i hi=>?_⟩
  rw [htl] at hi
  rw [hc i (by omega)]
  simp [List.getD,hi]
theorem take_short (p:Nat) {D:Nat} (zs:List Int) (short:Bool) (k:Nat) (hk:zs.length < k) (hk2:k≤65535) (w:World) (h:Rd w p D zs short) :
  Calls Tryz.prog 103 #[.pointer (some ⟨p,0,none⟩),.int .i64 (k:Int)] w fun e w'=>e = .returned (.slice none 0 0)∧Rd w' p D [] true∧But (fun b=>b=p) w w':=by
 obtain ⟨h1,h2,h3,h4,h5,h6⟩:=h
 rcases h6 with ⟨h6,rfl⟩|⟨off,cap,hbp,hc,hl,hm,hr⟩
 ·have hk':0 < k:=by simpa using hk
  go_enter Tryz.func103,Tryz.ntmps103
  go_wp2
  go_ret
  exact ⟨rfl,rd_short h6 h1 h2 h3,but_two _ _ _ _ _ _⟩
 ·go_enter Tryz.func103,Tryz.ntmps103
  go_wp2
  go_ret
  exact ⟨rfl,rd_short hc h1 h2 h3,but_two _ _ _ _ _ _⟩
theorem take_ok (p:Nat) {D:Nat} (zs:List Int) (short:Bool) (k:Nat) (hk:k≤zs.length) (hk2:k≤65535) (w:World) (h:Rd w p D zs short) :
  Calls Tryz.prog 103 #[.pointer (some ⟨p,0,none⟩),.int .i64 (k:Int)] w fun e w'=>∃ a cap,e = .returned (.slice a k cap)∧Row w' a k (zs.take k)∧Rd w' p D (zs.drop k) short∧But (fun b=>b=p) w w':=by
 obtain ⟨h1,h2,h3,h4,h5,h6⟩:=h
 rcases h6 with ⟨h6,rfl⟩|⟨off,cap,hbp,hc,hl,hm,hr⟩
 ·have hk':k=0:=by simpa using hk
  subst hk'
  go_enter Tryz.func103,Tryz.ntmps103
  go_wp2
  go_ret
  refine ⟨none,0,rfl,Row.nil,⟨cell_ne h1 (by simp),by rw [World.frozen?_setCell];exact h2,by rw [World.frozen?_setCell];exact h3,by simp,bytes_nil,.inl ⟨World.cell?_setCell_same _ _ _ h6,rfl⟩⟩,but_one _ _ _ _⟩
 ·have hm':cap≤9223372036854775807:=by simpa [maxLen] using hm
  have htl:(zs.take k).length=k:=by rw [List.length_take];omega
  have HTL:=Lib.hid htl
  clear htl
  by_cases hck:cap=k
  ·go_enter Tryz.func103,Tryz.ntmps103
   go_wp2
   go_ret
   obtain ⟨g1,g2⟩:=rd_taken hc h1 h2 h3 h4 h5 hbp hl hm hr hk off (by omega) (zs.length - k) 0 rfl (by omega) (by simp)
   rw [HTL.out] at g2
   exact ⟨_,_,rfl,g2,g1,but_one _ _ _ _⟩
  ·go_enter Tryz.func103,Tryz.ntmps103
   go_wp2
   go_ret
   obtain ⟨g1,g2⟩:=rd_taken hc h1 h2 h3 h4 h5 hbp hl hm hr hk (off+k) (fun _=>rfl) (zs.length - k) (cap - k) rfl (by omega) (by omega)
   rw [HTL.out] at g2
   exact ⟨_,_,rfl,g2,g1,but_one _ _ _ _⟩
theorem left_any (p:Nat) {D:Nat} (zs:List Int) (short:Bool) (w:World) (h:Rd w p D zs short) :
  Calls Tryz.prog 79 #[.pointer (some ⟨p,0,none⟩)] w fun e w'=>e = .returned (.int .i64 (zs.length:Int))∧w=w':=by
 obtain ⟨h1,h2,h3,h4,h5,h6⟩:=h
 rcases h6 with ⟨h6,rfl⟩|⟨off,cap,hbp,hc,hl,hm,hr⟩
 ·go_enter Tryz.func79,Tryz.ntmps79
  go_wp2
  go_ret
  exact ⟨rfl,rfl⟩
 ·go_enter Tryz.func79,Tryz.ntmps79
  go_wp2
  go_ret
  exact ⟨rfl,rfl⟩
theorem short_any (p:Nat) {D:Nat} (zs:List Int) (short:Bool) (w:World) (h:Rd w p D zs short) :
  Calls Tryz.prog 78 #[.pointer (some ⟨p,0,none⟩)] w fun e w'=>e = .returned (.bool short)∧w=w':=by
 obtain ⟨h1,h2,h3,h4,h5,h6⟩:=h
 go_enter Tryz.func78,Tryz.ntmps78
 go_wp2
 go_ret
 exact ⟨rfl,rfl⟩
theorem or_step {ys:List Int} {j c k:Nat} (hb:Bytes ys) (hl:ys.length=k) (hj:j < k) (hk:k≤8) (hc:c < 256) (hce:ys.getD j 0=(c:Int)) :
  bits .or .u64 ((num (ys.take j):Nat):Int) (IntKind.u64.wrap ((c:Int) * 2 ^ (8 * j)))=((num (ys.take (j+1)):Nat):Int):=by
 have hp:(2:Nat) ^ (8 * j)=256 ^ j:=by rw [Nat.pow_mul]
 have h1:num (ys.take j) < 256 ^ j:=by
  have:=num_lt (bytes_take hb j)
  rwa [List.length_take,Nat.min_eq_left (by omega)] at this
 have h7:256 ^ j * 256≤256 ^ 8:=by rw [← Nat.pow_succ];exact pow256_le (by omega)
 have h8:(256:Nat) ^ 8=18446744073709551616:=by decide
 have h9:c * 256 ^ j+256 ^ j≤256 ^ j * 256:=by
  rw [Nat.mul_comm c,← Nat.mul_succ]
  exact Nat.mul_le_mul_left _ hc
 have e1:(c:Int) * 2 ^ (8 * j)=((c * 256 ^ j:Nat):Int):=by rw [← hp];simp
 rw [e1,IntKind.wrap_u64]
 have e2:((c * 256 ^ j:Nat):Int) % 18446744073709551616=((c * 256 ^ j:Nat):Int):=by omega
 rw [e2,u64_or_nat _ _ (by omega) (by omega),num_snoc ys j (by omega),hce]
 congr 1
 rw [Nat.or_comm,← hp,← Nat.shiftLeft_eq,← Nat.shiftLeft_add_eq_or_of_lt (by rw [hp];exact h1),Nat.shiftLeft_eq,Int.toNat_natCast,Nat.mul_comm,Nat.add_comm]
theorem number_any (p:Nat) {D:Nat} (zs:List Int) (short:Bool) (k:Nat) (hk1:1≤k) (hk8:k≤8) (w:World) (h:Rd w p D zs short) :
  Calls Tryz.prog 76 #[.pointer (some ⟨p,0,none⟩),.int .i64 (k:Int)] w fun e w'=>e = .returned (.int .u64 ((num (got zs k):Nat):Int))∧Rd w' p D (left zs k) (shortBy zs k short)∧But (fun b=>b=p) w w':=by
 by_cases hk:k≤zs.length
 ·have e1:got zs k=zs.take k:=if_pos hk
  have e2:left zs k=zs.drop k:=if_pos hk
  have e3:shortBy zs k short=short:=if_pos hk
  rw [e1,e2,e3]
  clear e1 e2 e3
  obtain ⟨ys,hys⟩:∃ ys,ys=zs.take k:=⟨_,rfl⟩
  rw [← hys]
  have HY:=Lib.hid hys
  clear hys
  go_enter Tryz.func76,Tryz.ntmps76
  go_wp2_with (first
   | (go_at_call 97;refine (may_yes k (by omega) (by omega) _).mono ?_;rintro e w' ⟨rfl,rfl⟩)
   | (go_at_call 103;refine (take_ok p zs short k hk (by omega) _ h).mono ?_;rintro e w1 ⟨a,cap,rfl,hrow,hrd,hbut⟩))
  obtain ⟨hrl,hrb,hrc⟩:=hrow
  have HR:=Lib.hid hrd
  have HB:=Lib.hid hbut
  clear hrd hbut h
  rw [← HY.out] at hrl hrb hrc
  go_loop [5,6,7,15] (fun n _ _ i=>∃ j:Nat,j≤k∧i = .int .i64 (j:Int)∧n = .int .u64 ((num (ys.take j):Nat):Int)) (fun _ _ _ i=>k - (intOf i).toNat)
  case atStart=>exact ⟨0,by omega,rfl,rfl⟩
  case round =>
   obtain ⟨j,hj,rfl,rfl⟩:=hrel
   by_cases hlt:j < k
   ·obtain ⟨b,off,rfl,_,hcell⟩:=hrc (by omega)
    have hz:=getD_byte hrb (i:=j) (by omega)
    obtain ⟨c,hcb,hce⟩:∃ c:Nat,c < 256∧ys.getD j 0=(c:Int):=⟨(ys.getD j 0).toNat,by omega,by omega⟩
    have hk0:=hcell j hlt
    rw [hce] at hk0
    clear hcell hrc hz
    have HE:=Lib.hid (or_step hrb hrl hlt hk8 hcb hce)
    clear hce
    go_wp2
    go_round
    case rel=>exact ⟨j+1,by omega,by go_num,by rw [HE.out]⟩
    case measure=>simp [intOf];omega
   ·have hjk:j=k:=by omega
    subst hjk
    have hall:ys.take j=ys:=List.take_of_length_le (by omega)
    have HA:=Lib.hid hall
    clear hall
    go_wp2
    go_ret
    exact ⟨ret_int (by rw [HA.out]),HR.out,HB.out⟩
 ·have e1:got zs k=[]:=if_neg hk
  have e2:left zs k=[]:=if_neg hk
  have e3:shortBy zs k short=true:=if_neg hk
  rw [e1,e2,e3]
  clear e1 e2 e3
  go_enter Tryz.func76,Tryz.ntmps76
  go_wp2_with (first
   | (go_at_call 97;refine (may_yes k (by omega) (by omega) _).mono ?_;rintro e w' ⟨rfl,rfl⟩)
   | (go_at_call 103;refine (take_short p zs short k (by omega) (by omega) _ h).mono ?_;rintro e w1 ⟨rfl,hrd,hbut⟩))
  refine wp_loop_rounds 1 ?_
  rw [rounds_succ]
  go_wp2
  go_ret
  exact ⟨rfl,hrd,hbut⟩
theorem take_any (p:Nat) {D:Nat} (zs:List Int) (short:Bool) (k:Nat) (hk2:k≤65535) (w:World) (h:Rd w p D zs short) :
  Calls Tryz.prog 103 #[.pointer (some ⟨p,0,none⟩),.int .i64 (k:Int)] w fun e w'=>∃ a n cap,e = .returned (.slice a n cap)∧Row w' a n (got zs k)∧Rd w' p D (left zs k) (shortBy zs k short)∧But (fun b=>b=p) w w':=by
 by_cases hk:k≤zs.length
 ·have e1:got zs k=zs.take k:=if_pos hk
  have e2:left zs k=zs.drop k:=if_pos hk
  have e3:shortBy zs k short=short:=if_pos hk
  rw [e1,e2,e3]
  refine (take_ok p zs short k hk hk2 w h).mono ?_
  rintro e w' ⟨a,cap,rfl,h1,h2,h3⟩
  exact ⟨a,k,cap,rfl,h1,h2,h3⟩
 ·have e1:got zs k=[]:=if_neg hk
  have e2:left zs k=[]:=if_neg hk
  have e3:shortBy zs k short=true:=if_neg hk
  rw [e1,e2,e3]
  refine (take_short p zs short k (by omega) hk2 w h).mono ?_
  rintro e w' ⟨rfl,h1,h2⟩
  exact ⟨none,0,0,rfl,Row.nil,h1,h2⟩
def textLen (zs:List Int):Nat:=num (got zs 2)
def textGot (zs:List Int):List Int:=got (left zs 2) (textLen zs)
def textLeft (zs:List Int):List Int:=left (left zs 2) (textLen zs)
def textShort (zs:List Int) (s:Bool):Bool:=shortBy (left zs 2) (textLen zs) (shortBy zs 2 s)
theorem text_any (p:Nat) {D:Nat} (zs:List Int) (short:Bool) (w:World) (h:Rd w p D zs short) :
  Calls Tryz.prog 75 #[.pointer (some ⟨p,0,none⟩)] w fun e w'=>e = .returned (.string (strOfNums (textGot zs)))∧Rd w' p D (textLeft zs) (textShort zs short)∧But (fun b=>b=p) w w':=by
 have hN:textLen zs < 65536:=num_got2_lt h.2.2.2.2.1
 have HN:=Lib.hid hN
 obtain ⟨N,hNN⟩:∃ N,N=num (got zs 2):=⟨_,rfl⟩
 have hc:=number_any p zs short 2 (by omega) (by omega) w h
 rw [← hNN] at hc
 have hN2:N < 65536:=by rw [hNN];exact hN
 have HNN:=Lib.hid hNN
 clear hNN hN
 go_enter Tryz.func75,Tryz.ntmps75
 go_wp2_with (first
  | (go_at_call 76;refine hc.mono ?_;rintro e w1 ⟨rfl,hrd1,hbut1⟩)
  | (go_at_call 103;refine (take_any p (left zs 2) (shortBy zs 2 short) N (by omega) _ hrd1).mono ?_;rintro e w2 ⟨a,n,cap,rfl,hrow,hrd2,hbut2⟩;have hstr:=fun dst hd=>run_string_row (P:=Tryz.prog) hrow 81 5 dst Tryz.underlying81 Tryz.underlying5 hd cap))
 go_ret
 have e1:textLen zs=N:=HNN.out.symm
 rw [textGot,textLeft,textShort,e1]
 exact ⟨rfl,hrd2,hbut1.trans' hbut2⟩
theorem new_any (a:Option Addr) (len cap:Nat) (zs:List Int) (w:World) (h:Row w a len zs) (hn:a=none→cap=0) (hl:len≤1073741824) :
  Calls Tryz.prog 74 #[.slice a len cap] w fun e w'=>∃ p,e = .returned (.pointer (some ⟨p,0,none⟩))∧w.heap.size≤p∧∃ D,Rd w' p D zs false∧Below w.heap.size w w'∧w.heap.size≤D∧D≤p:=by
 obtain ⟨i0,hi0,hz0,hz1,hz2⟩:=info_parts u8_info
 have HN:=Lib.hid hn
 clear hn
 obtain rfl:zs.length=len:=h.1
 go_enter Tryz.func74,Tryz.ntmps74
 go_wp2_with (at_builtin;refine wpList_append_onto rfl (.const (.slice none 0 0)) (.tmp 3) _ rfl w.heap.size 5 i0 _ 1 1 Tryz.underlying81 hi0 hz0 hz1 hz2 rfl (by omega) (.slice none 0 0) 0 [] rfl (World.ownsRow_nil _ _ _ _) (.slice a zs.length cap) zs.length (cellsOf zs) rfl (h.sees HN.out) (cellsOf_one zs) (by simp only [maxLen];omega) (by omega) (Nat.le_refl _) ?_;intro v2 w2 ho2 hon2;obtain ⟨a2,c2,rfl,hr2,hlen2,hD⟩:=own_shape (xs:=zs) (by simpa using ho2) h.2.1)
 go_ret
 have hbel:Below w.heap.size w w2:=hon2.below (World.ownsRow_nil w w.heap.size 5 1) (Nat.le_refl _)
 have hsz:=hbel.size
 have c0:∀ o:Obj,o = .cells #[.slice a2 zs.length c2,.bool false] 160→(w2.alloc o).cell? ⟨w2.heap.size,0,none⟩=some (.slice a2 zs.length c2)∧(w2.alloc o).cell? ⟨w2.heap.size,1,none⟩=some (.bool false)∧(w2.alloc o).frozen? ⟨w2.heap.size,0,none⟩=false∧(w2.alloc o).frozen? ⟨w2.heap.size,1,none⟩=false:=by
  rintro o rfl
  refine ⟨?_,?_,?_,?_⟩
  ·rw [World.cell?_alloc_at _ _ _ _ rfl];rfl
  ·rw [World.cell?_alloc_at _ _ _ _ rfl];rfl
  ·rw [World.frozen?_alloc_at _ _ _ _ rfl]
  ·rw [World.frozen?_alloc_at _ _ _ _ rfl]
 obtain ⟨k0,k1,k2,k3⟩:=c0 _ rfl
 rcases hD with ⟨rfl,rfl,h0⟩|⟨g,rfl,hg1,hg2,hg3,hg4⟩
 ·refine ⟨w2.heap.size,rfl,hsz,w2.heap.size,⟨k1,k2,k3,by omega,h.2.1,.inl ⟨?_,List.eq_nil_of_length_eq_zero (by omega)⟩⟩,hbel.alloc hsz _,hsz,Nat.le_refl _⟩
  exact k0.trans (by rw [h0])
 ·refine ⟨w2.heap.size,rfl,hsz,g,⟨k1,k2,k3,by omega,h.2.1,.inr ⟨0,c2,by omega,?_,by omega,hg4,?_⟩⟩,hbel.alloc hsz _,hg1,by omega⟩
  ·exact k0
  ·exact hr2.below ((Below.refl _ _).alloc (Nat.le_refl _) _)
end Go.Proofs.YtbhoknnjilidnaaGreatDoor.Pack
end
section
namespace Go.Proofs.YtbhoknnjilidnaaGreatDoor.Pack
open Go.Proofs.YtbhoknnjilidnaaGreatDoor.Mem
open Go.ChangeShapes Go.WideShapes Go.ChangeAt Go.RowKit
def Rf (w:World) (q bd:Nat) (zs:List Int) (short:Bool):Prop :=
 ∃ (B:List Int) (at':Nat) (a:Option Addr) (cap:Nat),w.cell? ⟨q,0,none⟩=some (.slice a B.length cap)∧w.cell? ⟨q,1,none⟩=some (.int .i64 (at':Int))∧w.cell? ⟨q,2,none⟩=some (.bool short) ∧
  w.frozen? ⟨q,1,none⟩=false∧w.frozen? ⟨q,2,none⟩=false∧Row w a B.length B∧B.length≤cap∧cap≤maxLen∧B.length≤1073741824∧at'≤B.length∧(∀ p,a=some p→0 < B.length→p.block≠q∧p.block < bd) ∧
  (a=none→cap=0)∧((short=true∧zs=[])∨(short=false∧zs=B.drop at'))
end Go.Proofs.YtbhoknnjilidnaaGreatDoor.Pack
end
section
namespace Go.Proofs.YtbhoknnjilidnaaGreatDoor.Pack
open Go.Proofs.YtbhoknnjilidnaaGreatDoor.Mem
open Go.ChangeShapes Go.WideShapes Go.ChangeAt Go.RowKit
theorem Rf.but {S:Nat→Prop} {w w':World} {q bd:Nat} {zs:List Int} {short:Bool} (h:Rf w q bd zs short) (hb:But S w w') (hq:¬ S q) (hd:∀ k,k < bd→¬ S k):Rf w' q bd zs short:=by
 obtain ⟨B,at',a,cap,h0,h1,h2,f1,f2,hr,hlc,hcm,hB,hat,hne,hnil,hz⟩:=h
 have hlt:q < w.heap.size:=World.block_lt_of_cell? w ⟨q,1,none⟩ h1
 exact ⟨B,at',a,cap,(hb.cell (p:=⟨q,0,none⟩) hlt hq).trans h0,(hb.cell (p:=⟨q,1,none⟩) hlt hq).trans h1,(hb.cell (p:=⟨q,2,none⟩) hlt hq).trans h2,(hb.frozen (p:=⟨q,1,none⟩) hlt hq).trans f1,(hb.frozen (p:=⟨q,2,none⟩) hlt hq).trans f2,
  hr.but hb (fun p hp hn=>hd _ (hne p hp hn).2),hlc,hcm,hB,hat,hne,hnil,hz⟩
end Go.Proofs.YtbhoknnjilidnaaGreatDoor.Pack
end
section
namespace Go.Proofs.YtbhoknnjilidnaaGreatDoor.Pack
open Go.Proofs.YtbhoknnjilidnaaGreatDoor.Mem
open Go.ChangeShapes Go.WideShapes Go.ChangeAt Go.RowKit
theorem Rd.below {w w':World} {p D:Nat} {zs:List Int} {short:Bool} (h:Rd w p D zs short) (hb:Below w.heap.size w w'):Rd w' p D zs short:=by
 refine h.but (S:=fun _=>False) ((But.of_below hb).mono (fun i hi hs=>by omega)) (fun h=>h) (fun h=>h)
theorem Rf.below {w w':World} {q bd:Nat} {zs:List Int} {short:Bool} (h:Rf w q bd zs short) (hb:Below w.heap.size w w'):Rf w' q bd zs short:=by
 refine h.but (S:=fun _=>False) ((But.of_below hb).mono (fun i hi hs=>by omega)) (fun h=>h) (fun _ _ h=>h)
theorem Rf.short {w:World} {q bd:Nat} {zs:List Int} {short:Bool} (h:Rf w q bd zs short):w.cell? ⟨q,2,none⟩=some (.bool short):=by
 obtain ⟨B,at',a,cap,h0,h1,h2,_⟩:=h
 exact h2
theorem got_front {xs:List Int} (ys:List Int) {k:Nat} (h:xs.length=k):got (xs++ys) k=xs:=by
 subst h
 unfold got
 rw [if_pos (by simp)]
 exact List.take_left
theorem left_front {xs:List Int} (ys:List Int) {k:Nat} (h:xs.length=k):left (xs++ys) k=ys:=by
 subst h
 unfold left
 rw [if_pos (by simp)]
 exact List.drop_left
theorem short_front {xs:List Int} (ys:List Int) {k:Nat} (h:xs.length=k) (s:Bool):shortBy (xs++ys) k s=s:=by
 subst h
 exact if_pos (by simp)
theorem textLen_front (s:ByteArray) (hs:s.size≤65535) (ys:List Int):textLen (put s.size 2++(strBytes s++ys))=s.size:=by
 unfold textLen
 rw [got_front _ (put_length _ _),num_put]
 exact Nat.mod_eq_of_lt (by omega)
theorem textGot_front (s:ByteArray) (hs:s.size≤65535) (ys:List Int):textGot (put s.size 2++(strBytes s++ys))=strBytes s:=by
 unfold textGot
 rw [textLen_front s hs,left_front _ (put_length _ _),got_front _ (strBytes_length s)]
theorem textLeft_front (s:ByteArray) (hs:s.size≤65535) (ys:List Int):textLeft (put s.size 2++(strBytes s++ys))=ys:=by
 unfold textLeft
 rw [textLen_front s hs,left_front _ (put_length _ _),left_front _ (strBytes_length s)]
theorem textShort_front (s:ByteArray) (hs:s.size≤65535) (ys:List Int) (b:Bool):textShort (put s.size 2++(strBytes s++ys)) b=b:=by
 unfold textShort
 rw [textLen_front s hs,left_front _ (put_length _ _),short_front _ (strBytes_length s),short_front _ (put_length _ _)]
theorem Row.part {w:World} {b off len:Nat} {zs:List Int} (h:Row w (some ⟨b,off,none⟩) len zs) (i k:Nat) (hik:i+k≤len) (a:Option Addr) (ha:0 < k→a=some ⟨b,off+i,none⟩):Row w a k ((zs.drop i).take k):=by
 have hl:((zs.drop i).take k).length=k:=by rw [List.length_take,List.length_drop,h.1];omega
 refine ⟨hl,bytes_take (bytes_drop h.2.1 i) k,fun h0=>?_⟩
 obtain ⟨b',o,hq,hlt,hc⟩:=h.2.2 (by omega)
 injection hq with hq
 injection hq with hq1 hq2
 subst hq1 hq2
 refine ⟨b,off+i,ha h0,hlt,fun j hj=>?_⟩
 have:=hc (i+j) (by omega)
 rw [← Nat.add_assoc] at this
 rw [this]
 simp [List.getD,List.getElem?_drop,hj]
end Go.Proofs.YtbhoknnjilidnaaGreatDoor.Pack
end
section
namespace Go.Proofs.YtbhoknnjilidnaaGreatDoor.Rec
open Go.Proofs.YtbhoknnjilidnaaGreatDoor.Mem Go.Proofs.YtbhoknnjilidnaaGreatDoor.Pack
structure Rcd where
 kind:Int
 bucket:Int
 gen:Nat
 keys:Int
 bytes:Int
 budget:Int
 seq:Nat
 serial:Nat
 rights:Int
 secret:Nat
 key:ByteArray
 val:ByteArray
 version:Nat
 expiry:Nat
deriving DecidableEq
def cells (r:Rcd):Array Value := #[.int .i64 r.kind,.int .i64 r.bucket,.int .u32 (r.gen:Int),.int .i64 r.keys,.int .i64 r.bytes,.int .i64 r.budget,.int .u64 (r.seq:Int),.int .u32 (r.serial:Int),.int .i64 r.rights,.int .u64 (r.secret:Int),.string r.key,.string r.val,.int .u64 (r.version:Int),.int .u64 (r.expiry:Int)]
def rv (r:Rcd):Value := .agg (cells r)
def nothing:ByteArray:=⟨#[]⟩
def zero:Rcd:=⟨0,0,0,0,0,0,0,0,0,0,nothing,nothing,0,0⟩
def base (r:Rcd):Rcd:=⟨r.kind,r.bucket,r.gen,0,0,0,0,0,0,0,nothing,nothing,0,0⟩
def named (r:Rcd):Rcd :=
 if r.kind=1 then ⟨r.kind,r.bucket,r.gen,r.keys,r.bytes,r.budget,r.seq,r.serial,0,0,nothing,nothing,0,0⟩
 else if r.kind=3 then ⟨r.kind,r.bucket,r.gen,0,0,0,0,0,0,0,r.key,r.val,r.version,r.expiry⟩
 else if r.kind=4 then ⟨r.kind,r.bucket,r.gen,0,0,0,0,0,0,0,r.key,nothing,r.version,0⟩
 else if r.kind=5 then ⟨r.kind,r.bucket,r.gen,0,0,0,0,r.serial,r.rights,r.secret,nothing,nothing,0,0⟩
 else if r.kind=6 then ⟨r.kind,r.bucket,r.gen,0,0,0,0,r.serial,0,0,nothing,nothing,0,0⟩
 else if r.kind=2∨r.kind=7 then base r
 else zero
def inQ (n:Int):Prop:=0≤n∧n≤1099511627776
def keyMay (s:ByteArray):Prop:=1≤s.size∧s.size≤64
instance (n:Int):Decidable (inQ n):=by unfold inQ;infer_instance
instance (s:ByteArray):Decidable (keyMay s):=by unfold keyMay;infer_instance
def fits (r:Rcd):Prop :=
 if r.kind=1 then inQ r.keys∧inQ r.bytes∧inQ r.budget
 else if r.kind=3 then keyMay r.key∧r.val.size≤1000
 else if r.kind=4 then keyMay r.key
 else if r.kind=5 then 1≤r.rights∧r.rights≤7
 else True
instance (r:Rcd):Decidable (fits r):=by unfold fits;infer_instance
def May (r:Rcd):Prop:=1≤r.kind∧r.kind≤7∧0≤r.bucket∧r.bucket < 64∧1≤r.gen∧r=named r∧fits r
instance (r:Rcd):Decidable (May r):=by unfold May;infer_instance
structure Is (r:Rcd):Prop where
 kind : -9223372036854775808≤r.kind∧r.kind≤9223372036854775807
 bucket : -9223372036854775808≤r.bucket∧r.bucket≤9223372036854775807
 gen:r.gen < 4294967296
 seq:r.seq < 18446744073709551616
 serial:r.serial < 4294967296
 rights : -9223372036854775808≤r.rights∧r.rights≤9223372036854775807
 secret:r.secret < 18446744073709551616
 key:r.key.size≤9223372036854775807
 val:r.val.size≤9223372036854775807
 version:r.version < 18446744073709551616
 expiry:r.expiry < 18446744073709551616
def text (s:ByteArray):List Int:=put s.size 2++strBytes s
def more (r:Rcd):List Int :=
 if r.kind=1 then put r.keys.toNat 8++(put r.bytes.toNat 8++(put r.budget.toNat 8++(put r.seq 8++put r.serial 4)))
 else if r.kind=3 then put r.version 8++(put r.expiry 8++(text r.key++text r.val))
 else if r.kind=4 then put r.version 8++text r.key
 else if r.kind=5 then put r.serial 4++(put r.rights.toNat 1++put r.secret 8)
 else if r.kind=6 then put r.serial 4
 else []
def bytesOf (r:Rcd):List Int:=put r.kind.toNat 1++(put r.bucket.toNat 1++(put r.gen 4++more r))
def body (l:List Rcd):List Int:=l.flatMap bytesOf
end Go.Proofs.YtbhoknnjilidnaaGreatDoor.Rec
end

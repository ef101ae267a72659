/- The bytes of a record: the walks of record.put, a kind each. The bytes of a record as the document's: the walks of the reference's Bytes, a kind each. The bytes of a record as the document's: the walks of the reference's Bytes, a kind each. The bytes of a record as the document's: the walks of the reference's Bytes, a kind each. -/
import Derived.Test.YtgjofinbdigmcaaGreatG12
set_option linter.unusedSimpArgs false
set_option linter.unusedVariables false
set_option maxHeartbeats 2000000
set_option maxRecDepth 100000
section
namespace Go.Proofs.YtgjofinbdigmcaaGreat.Rec
open Go.Proofs.YtgjofinbdigmcaaGreat.Mem Go.Proofs.YtgjofinbdigmcaaGreat.Pack
open Go.ChangeShapes Go.WideShapes Go.ChangeAt Go.RowKit
theorem rput_4 (r:Rcd) (hk:r.kind=4) (hm:May r) (hi:Is r) (v:Value) (len:Nat) (xs:List Int) (base:Nat) (w:World)
  (hown:w.ownsRow base 5 1 v len (cellsOf xs)) (hb:base≤w.heap.size) (hl:len≤1000000):Calls Tryz.prog 64 #[v,rv r] w fun e w'=>Puts base w xs len r e w':=by
 obtain ⟨k,b,g,q1,q2,q3,s1,s2,ri,se,ke,va,ve,ex⟩:=r
 simp only at hk
 subst hk
 have hb0:0≤b:=hm.2.2.1
 have hb1:b < 64:=hm.2.2.2.1
 have hgn:g < 4294967296:=hi.gen
 have hs1:s1 < 18446744073709551616:=hi.seq
 have hs2:s2 < 4294967296:=hi.serial
 have hse:se < 18446744073709551616:=hi.secret
 have hve:ve < 18446744073709551616:=hi.version
 have hex:ex < 18446744073709551616:=hi.expiry
 have hf:1≤ke.size∧ke.size≤64:=hm.2.2.2.2.2.2
 obtain ⟨hke,hke'⟩:=hf
 have hcut1:ke=cut ke:=by rw [cut,if_neg (by omega)]
 have HC1:=Lib.hid hcut1
 clear hcut1
 clear hm hi
 obtain ⟨b,rfl⟩:∃ x:Nat,b=(x:Int):=⟨b.toNat,by omega⟩
 have hg0:=Going.start (cells ⟨4,b,g,q1,q2,q3,s1,s2,ri,se,ke,va,ve,ex⟩) hown hb
 have HOWN:=Lib.hid hown
 clear hown
 simp only [rv,cells] at hg0 ⊢
 have hlen:(bytesOf ⟨4,b,g,q1,q2,q3,s1,s2,ri,se,ke,va,ve,ex⟩).length=16+ke.size:=by simp [bytesOf,more,text,put_length,strBytes_length];try omega
 have HLEN:=Lib.hid hlen
 clear hlen
 go_enter Tryz.func64,Tryz.ntmps64
 go_wp2_with fail
 refine (put_any 4 (by omega) 1 (by omega) (by omega) v _ xs base _ hg0.own hg0.size (by omega)).mono ?_
 rintro e w1 ⟨v1,rfl,ho,hon⟩
 have hg1:=hg0.step ho hon.grown
 clear ho hon hg0
 have c1:=hg1.box.cell 1 rfl
 go_wp2_with fail
 refine (put_any b (by omega) 1 (by omega) (by omega) v1 _ (xs++put 4 1) base _ hg1.own hg1.size (by omega)).mono ?_
 rintro e w2 ⟨v2,rfl,ho,hon⟩
 have hg2:=hg1.step ho hon.grown
 clear ho hon hg1
 have c2:=hg2.box.cell 2 rfl
 go_wp2_with fail
 refine (put_any g (by omega) 4 (by omega) (by omega) v2 _ ((xs++put 4 1)++put b 1) base _ hg2.own hg2.size (by omega)).mono ?_
 rintro e w3 ⟨v3,rfl,ho,hon⟩
 have hg3:=hg2.step ho hon.grown
 clear ho hon hg2
 have c0:=hg3.box.cell 0 rfl
 have c12:=hg3.box.cell 12 rfl
 go_wp2_with fail
 refine (put_any ve (by omega) 8 (by omega) (by omega) v3 _ (((xs++put 4 1)++put b 1)++put g 4) base _ hg3.own hg3.size (by omega)).mono ?_
 rintro e w4 ⟨v4,rfl,ho,hon⟩
 have hg4:=hg3.step ho hon.grown
 clear ho hon hg3
 have c10:=hg4.box.cell 10 rfl
 go_wp2_with fail
 refine (putText_any ke ke HC1.out v4 _ ((((xs++put 4 1)++put b 1)++put g 4)++put ve 8) base _ hg4.own hg4.size (by omega) (by omega)).mono ?_
 rintro e w5 ⟨v5,rfl,ho,hon⟩
 have hg5:=hg4.step ho hon.grown
 clear ho hon hg4
 go_wp2_with fail
 go_ret
 refine ⟨_,rfl,?_,hg5.below⟩
 rw [HLEN.out]
 refine row_eq hg5.own (by omega) ?_
 simp [bytesOf,more,text]
theorem rput_5 (r:Rcd) (hk:r.kind=5) (hm:May r) (hi:Is r) (v:Value) (len:Nat) (xs:List Int) (base:Nat) (w:World)
  (hown:w.ownsRow base 5 1 v len (cellsOf xs)) (hb:base≤w.heap.size) (hl:len≤1000000):Calls Tryz.prog 64 #[v,rv r] w fun e w'=>Puts base w xs len r e w':=by
 obtain ⟨k,b,g,q1,q2,q3,s1,s2,ri,se,ke,va,ve,ex⟩:=r
 simp only at hk
 subst hk
 have hb0:0≤b:=hm.2.2.1
 have hb1:b < 64:=hm.2.2.2.1
 have hgn:g < 4294967296:=hi.gen
 have hs1:s1 < 18446744073709551616:=hi.seq
 have hs2:s2 < 4294967296:=hi.serial
 have hse:se < 18446744073709551616:=hi.secret
 have hve:ve < 18446744073709551616:=hi.version
 have hex:ex < 18446744073709551616:=hi.expiry
 have hf:1≤ri∧ri≤7:=hm.2.2.2.2.2.2
 obtain ⟨hri,hri'⟩:=hf
 clear hm hi
 obtain ⟨b,rfl⟩:∃ x:Nat,b=(x:Int):=⟨b.toNat,by omega⟩
 obtain ⟨ri,rfl⟩:∃ x:Nat,ri=(x:Int):=⟨ri.toNat,by omega⟩
 have hg0:=Going.start (cells ⟨5,b,g,q1,q2,q3,s1,s2,ri,se,ke,va,ve,ex⟩) hown hb
 have HOWN:=Lib.hid hown
 clear hown
 simp only [rv,cells] at hg0 ⊢
 have hlen:(bytesOf ⟨5,b,g,q1,q2,q3,s1,s2,ri,se,ke,va,ve,ex⟩).length=19:=by simp [bytesOf,more,text,put_length,strBytes_length];try omega
 have HLEN:=Lib.hid hlen
 clear hlen
 go_enter Tryz.func64,Tryz.ntmps64
 go_wp2_with fail
 refine (put_any 5 (by omega) 1 (by omega) (by omega) v _ xs base _ hg0.own hg0.size (by omega)).mono ?_
 rintro e w1 ⟨v1,rfl,ho,hon⟩
 have hg1:=hg0.step ho hon.grown
 clear ho hon hg0
 have c1:=hg1.box.cell 1 rfl
 go_wp2_with fail
 refine (put_any b (by omega) 1 (by omega) (by omega) v1 _ (xs++put 5 1) base _ hg1.own hg1.size (by omega)).mono ?_
 rintro e w2 ⟨v2,rfl,ho,hon⟩
 have hg2:=hg1.step ho hon.grown
 clear ho hon hg1
 have c2:=hg2.box.cell 2 rfl
 go_wp2_with fail
 refine (put_any g (by omega) 4 (by omega) (by omega) v2 _ ((xs++put 5 1)++put b 1) base _ hg2.own hg2.size (by omega)).mono ?_
 rintro e w3 ⟨v3,rfl,ho,hon⟩
 have hg3:=hg2.step ho hon.grown
 clear ho hon hg2
 have c0:=hg3.box.cell 0 rfl
 have c7:=hg3.box.cell 7 rfl
 go_wp2_with fail
 refine (put_any s2 (by omega) 4 (by omega) (by omega) v3 _ (((xs++put 5 1)++put b 1)++put g 4) base _ hg3.own hg3.size (by omega)).mono ?_
 rintro e w4 ⟨v4,rfl,ho,hon⟩
 have hg4:=hg3.step ho hon.grown
 clear ho hon hg3
 have c8:=hg4.box.cell 8 rfl
 go_wp2_with fail
 refine (put_any ri (by omega) 1 (by omega) (by omega) v4 _ ((((xs++put 5 1)++put b 1)++put g 4)++put s2 4) base _ hg4.own hg4.size (by omega)).mono ?_
 rintro e w5 ⟨v5,rfl,ho,hon⟩
 have hg5:=hg4.step ho hon.grown
 clear ho hon hg4
 have c9:=hg5.box.cell 9 rfl
 go_wp2_with fail
 refine (put_any se (by omega) 8 (by omega) (by omega) v5 _ (((((xs++put 5 1)++put b 1)++put g 4)++put s2 4)++put ri 1) base _ hg5.own hg5.size (by omega)).mono ?_
 rintro e w6 ⟨v6,rfl,ho,hon⟩
 have hg6:=hg5.step ho hon.grown
 clear ho hon hg5
 go_wp2_with fail
 go_ret
 refine ⟨_,rfl,?_,hg6.below⟩
 rw [HLEN.out]
 refine row_eq hg6.own (by omega) ?_
 simp [bytesOf,more,text]
theorem rput_7 (r:Rcd) (hk:r.kind=7) (hm:May r) (hi:Is r) (v:Value) (len:Nat) (xs:List Int) (base:Nat) (w:World)
  (hown:w.ownsRow base 5 1 v len (cellsOf xs)) (hb:base≤w.heap.size) (hl:len≤1000000):Calls Tryz.prog 64 #[v,rv r] w fun e w'=>Puts base w xs len r e w':=by
 obtain ⟨k,b,g,q1,q2,q3,s1,s2,ri,se,ke,va,ve,ex⟩:=r
 simp only at hk
 subst hk
 have hb0:0≤b:=hm.2.2.1
 have hb1:b < 64:=hm.2.2.2.1
 have hgn:g < 4294967296:=hi.gen
 have hs1:s1 < 18446744073709551616:=hi.seq
 have hs2:s2 < 4294967296:=hi.serial
 have hse:se < 18446744073709551616:=hi.secret
 have hve:ve < 18446744073709551616:=hi.version
 have hex:ex < 18446744073709551616:=hi.expiry
 clear hm hi
 obtain ⟨b,rfl⟩:∃ x:Nat,b=(x:Int):=⟨b.toNat,by omega⟩
 have hg0:=Going.start (cells ⟨7,b,g,q1,q2,q3,s1,s2,ri,se,ke,va,ve,ex⟩) hown hb
 have HOWN:=Lib.hid hown
 clear hown
 simp only [rv,cells] at hg0 ⊢
 have hlen:(bytesOf ⟨7,b,g,q1,q2,q3,s1,s2,ri,se,ke,va,ve,ex⟩).length=6:=by simp [bytesOf,more,text,put_length,strBytes_length];try omega
 have HLEN:=Lib.hid hlen
 clear hlen
 go_enter Tryz.func64,Tryz.ntmps64
 go_wp2_with fail
 refine (put_any 7 (by omega) 1 (by omega) (by omega) v _ xs base _ hg0.own hg0.size (by omega)).mono ?_
 rintro e w1 ⟨v1,rfl,ho,hon⟩
 have hg1:=hg0.step ho hon.grown
 clear ho hon hg0
 have c1:=hg1.box.cell 1 rfl
 go_wp2_with fail
 refine (put_any b (by omega) 1 (by omega) (by omega) v1 _ (xs++put 7 1) base _ hg1.own hg1.size (by omega)).mono ?_
 rintro e w2 ⟨v2,rfl,ho,hon⟩
 have hg2:=hg1.step ho hon.grown
 clear ho hon hg1
 have c2:=hg2.box.cell 2 rfl
 go_wp2_with fail
 refine (put_any g (by omega) 4 (by omega) (by omega) v2 _ ((xs++put 7 1)++put b 1) base _ hg2.own hg2.size (by omega)).mono ?_
 rintro e w3 ⟨v3,rfl,ho,hon⟩
 have hg3:=hg2.step ho hon.grown
 clear ho hon hg2
 have c0:=hg3.box.cell 0 rfl
 go_wp2_with fail
 go_ret
 refine ⟨_,rfl,?_,hg3.below⟩
 rw [HLEN.out]
 refine row_eq hg3.own (by omega) ?_
 simp [bytesOf,more,text]
end Go.Proofs.YtgjofinbdigmcaaGreat.Rec
end
section
namespace Go.Proofs.YtgjofinbdigmcaaGreat.Rec
open Go.Proofs.YtgjofinbdigmcaaGreat.Mem Go.Proofs.YtgjofinbdigmcaaGreat.Pack
open Go.ChangeShapes Go.WideShapes Go.ChangeAt Go.RowKit
theorem rbytes_1 (r:Rcd) (hk:r.kind=1) (hm:May r) (hi:Is r) (v:Value) (len:Nat) (xs:List Int) (base:Nat) (w:World)
  (hown:w.ownsRow base 5 1 v len (cellsOf xs)) (hb:base≤w.heap.size) (hl:len≤1000000000):Calls Tryz.prog 66 #[v,rv r] w fun e w'=>Puts base w xs len r e w':=by
 obtain ⟨k,b,g,q1,q2,q3,s1,s2,ri,se,ke,va,ve,ex⟩:=r
 simp only at hk
 subst hk
 have hb0:0≤b:=hm.2.2.1
 have hb1:b < 64:=hm.2.2.2.1
 have hgn:g < 4294967296:=hi.gen
 have hs1:s1 < 18446744073709551616:=hi.seq
 have hs2:s2 < 4294967296:=hi.serial
 have hse:se < 18446744073709551616:=hi.secret
 have hve:ve < 18446744073709551616:=hi.version
 have hex:ex < 18446744073709551616:=hi.expiry
 have hf:(0≤q1∧q1≤1099511627776)∧(0≤q2∧q2≤1099511627776)∧(0≤q3∧q3≤1099511627776):=hm.2.2.2.2.2.2
 obtain ⟨⟨hq1,hq1'⟩,⟨hq2,hq2'⟩,⟨hq3,hq3'⟩⟩:=hf
 clear hm hi
 obtain ⟨b,rfl⟩:∃ x:Nat,b=(x:Int):=⟨b.toNat,by omega⟩
 obtain ⟨q1,rfl⟩:∃ x:Nat,q1=(x:Int):=⟨q1.toNat,by omega⟩
 obtain ⟨q2,rfl⟩:∃ x:Nat,q2=(x:Int):=⟨q2.toNat,by omega⟩
 obtain ⟨q3,rfl⟩:∃ x:Nat,q3=(x:Int):=⟨q3.toNat,by omega⟩
 have hg0:=Going.start (cells ⟨1,b,g,q1,q2,q3,s1,s2,ri,se,ke,va,ve,ex⟩) hown hb
 have HOWN:=Lib.hid hown
 clear hown
 simp only [rv,cells] at hg0 ⊢
 have hlen:(bytesOf ⟨1,b,g,q1,q2,q3,s1,s2,ri,se,ke,va,ve,ex⟩).length=42:=by simp [bytesOf,more,text,put_length,strBytes_length];try omega
 have HLEN:=Lib.hid hlen
 clear hlen
 obtain ⟨i0,hi0,hz0,hz1,hz2⟩:=info_parts u8_info
 go_enter Tryz.func66,Tryz.ntmps66
 go_wp2_with (at_builtin;refine wpList_append_onto rfl (.tmp 5) (.tmp 12) _ rfl base 5 i0 _ 1 1 Tryz.underlying115 hi0 hz0 hz1 hz2 rfl (by omega) v len (cellsOf xs) rfl (ownsRow_alloc hg0.own _) (.slice (some ⟨w.heap.size+1,0,none⟩) 2 2) 2 _ rfl (sees_two _ _ _ _ _ _ (by simp)) (by simp [Value.oneCell']) (by simp only [maxLen];omega) (by omega) (by have:=hg0.size;simp;omega) ?_;intro v1 w1 ho hon;have hg1:=hg0.stepped (ys:=xs++put 1 1++put b 1) (by rw [put_one 1 (by omega),put_one b (by omega),cellsOf_append,cellsOf_append,List.append_assoc];exact ho) hon;clear ho hon;have c2:=hg1.box.cell 2 rfl)
 clear hg0
 go_wp2_with fail
 refine (refPut_any g (by omega) 4 (by omega) v1 _ (xs++put 1 1++put b 1) base _ hg1.own hg1.size (by omega)).mono ?_
 rintro e w2 ⟨v2,rfl,ho,hon⟩
 have hg2:=hg1.step ho hon.grown
 clear ho hon hg1
 have c3:=hg2.box.cell 3 rfl
 have c0:=hg2.box.cell 0 rfl
 go_wp2_with fail
 refine (refPut_any q1 (by omega) 8 (by omega) v2 _ ((xs++put 1 1++put b 1)++put g 4) base _ hg2.own hg2.size (by omega)).mono ?_
 rintro e w3 ⟨v3,rfl,ho,hon⟩
 have hg3:=hg2.step ho hon.grown
 clear ho hon hg2
 have c4:=hg3.box.cell 4 rfl
 go_wp2_with fail
 refine (refPut_any q2 (by omega) 8 (by omega) v3 _ (((xs++put 1 1++put b 1)++put g 4)++put q1 8) base _ hg3.own hg3.size (by omega)).mono ?_
 rintro e w4 ⟨v4,rfl,ho,hon⟩
 have hg4:=hg3.step ho hon.grown
 clear ho hon hg3
 have c5:=hg4.box.cell 5 rfl
 go_wp2_with fail
 refine (refPut_any q3 (by omega) 8 (by omega) v4 _ ((((xs++put 1 1++put b 1)++put g 4)++put q1 8)++put q2 8) base _ hg4.own hg4.size (by omega)).mono ?_
 rintro e w5 ⟨v5,rfl,ho,hon⟩
 have hg5:=hg4.step ho hon.grown
 clear ho hon hg4
 have c6:=hg5.box.cell 6 rfl
 go_wp2_with fail
 refine (refPut_any s1 (by omega) 8 (by omega) v5 _ (((((xs++put 1 1++put b 1)++put g 4)++put q1 8)++put q2 8)++put q3 8) base _ hg5.own hg5.size (by omega)).mono ?_
 rintro e w6 ⟨v6,rfl,ho,hon⟩
 have hg6:=hg5.step ho hon.grown
 clear ho hon hg5
 have c7:=hg6.box.cell 7 rfl
 go_wp2_with fail
 refine (refPut_any s2 (by omega) 4 (by omega) v6 _ ((((((xs++put 1 1++put b 1)++put g 4)++put q1 8)++put q2 8)++put q3 8)++put s1 8) base _ hg6.own hg6.size (by omega)).mono ?_
 rintro e w7 ⟨v7,rfl,ho,hon⟩
 have hg7:=hg6.step ho hon.grown
 clear ho hon hg6
 go_wp2_with fail
 go_ret
 refine ⟨_,rfl,?_,hg7.below⟩
 rw [HLEN.out]
 refine row_eq hg7.own (by omega) ?_
 simp [bytesOf,more,text]
theorem rbytes_2 (r:Rcd) (hk:r.kind=2) (hm:May r) (hi:Is r) (v:Value) (len:Nat) (xs:List Int) (base:Nat) (w:World)
  (hown:w.ownsRow base 5 1 v len (cellsOf xs)) (hb:base≤w.heap.size) (hl:len≤1000000000):Calls Tryz.prog 66 #[v,rv r] w fun e w'=>Puts base w xs len r e w':=by
 obtain ⟨k,b,g,q1,q2,q3,s1,s2,ri,se,ke,va,ve,ex⟩:=r
 simp only at hk
 subst hk
 have hb0:0≤b:=hm.2.2.1
 have hb1:b < 64:=hm.2.2.2.1
 have hgn:g < 4294967296:=hi.gen
 have hs1:s1 < 18446744073709551616:=hi.seq
 have hs2:s2 < 4294967296:=hi.serial
 have hse:se < 18446744073709551616:=hi.secret
 have hve:ve < 18446744073709551616:=hi.version
 have hex:ex < 18446744073709551616:=hi.expiry
 clear hm hi
 obtain ⟨b,rfl⟩:∃ x:Nat,b=(x:Int):=⟨b.toNat,by omega⟩
 have hg0:=Going.start (cells ⟨2,b,g,q1,q2,q3,s1,s2,ri,se,ke,va,ve,ex⟩) hown hb
 have HOWN:=Lib.hid hown
 clear hown
 simp only [rv,cells] at hg0 ⊢
 have hlen:(bytesOf ⟨2,b,g,q1,q2,q3,s1,s2,ri,se,ke,va,ve,ex⟩).length=6:=by simp [bytesOf,more,text,put_length,strBytes_length];try omega
 have HLEN:=Lib.hid hlen
 clear hlen
 obtain ⟨i0,hi0,hz0,hz1,hz2⟩:=info_parts u8_info
 go_enter Tryz.func66,Tryz.ntmps66
 go_wp2_with (at_builtin;refine wpList_append_onto rfl (.tmp 5) (.tmp 12) _ rfl base 5 i0 _ 1 1 Tryz.underlying115 hi0 hz0 hz1 hz2 rfl (by omega) v len (cellsOf xs) rfl (ownsRow_alloc hg0.own _) (.slice (some ⟨w.heap.size+1,0,none⟩) 2 2) 2 _ rfl (sees_two _ _ _ _ _ _ (by simp)) (by simp [Value.oneCell']) (by simp only [maxLen];omega) (by omega) (by have:=hg0.size;simp;omega) ?_;intro v1 w1 ho hon;have hg1:=hg0.stepped (ys:=xs++put 2 1++put b 1) (by rw [put_one 2 (by omega),put_one b (by omega),cellsOf_append,cellsOf_append,List.append_assoc];exact ho) hon;clear ho hon;have c2:=hg1.box.cell 2 rfl)
 clear hg0
 go_wp2_with fail
 refine (refPut_any g (by omega) 4 (by omega) v1 _ (xs++put 2 1++put b 1) base _ hg1.own hg1.size (by omega)).mono ?_
 rintro e w2 ⟨v2,rfl,ho,hon⟩
 have hg2:=hg1.step ho hon.grown
 clear ho hon hg1
 have c0:=hg2.box.cell 0 rfl
 go_wp2_with fail
 go_ret
 refine ⟨_,rfl,?_,hg2.below⟩
 rw [HLEN.out]
 refine row_eq hg2.own (by omega) ?_
 simp [bytesOf,more,text]
end Go.Proofs.YtgjofinbdigmcaaGreat.Rec
end
section
namespace Go.Proofs.YtgjofinbdigmcaaGreat.Rec
open Go.Proofs.YtgjofinbdigmcaaGreat.Mem Go.Proofs.YtgjofinbdigmcaaGreat.Pack
open Go.ChangeShapes Go.WideShapes Go.ChangeAt Go.RowKit
theorem rbytes_3 (r:Rcd) (hk:r.kind=3) (hm:May r) (hi:Is r) (v:Value) (len:Nat) (xs:List Int) (base:Nat) (w:World)
  (hown:w.ownsRow base 5 1 v len (cellsOf xs)) (hb:base≤w.heap.size) (hl:len≤1000000000):Calls Tryz.prog 66 #[v,rv r] w fun e w'=>Puts base w xs len r e w':=by
 obtain ⟨k,b,g,q1,q2,q3,s1,s2,ri,se,ke,va,ve,ex⟩:=r
 simp only at hk
 subst hk
 have hb0:0≤b:=hm.2.2.1
 have hb1:b < 64:=hm.2.2.2.1
 have hgn:g < 4294967296:=hi.gen
 have hs1:s1 < 18446744073709551616:=hi.seq
 have hs2:s2 < 4294967296:=hi.serial
 have hse:se < 18446744073709551616:=hi.secret
 have hve:ve < 18446744073709551616:=hi.version
 have hex:ex < 18446744073709551616:=hi.expiry
 have hf:(1≤ke.size∧ke.size≤64)∧va.size≤1000:=hm.2.2.2.2.2.2
 obtain ⟨⟨hke,hke'⟩,hva⟩:=hf
 have hcut1:ke=cut ke:=by rw [cut,if_neg (by omega)]
 have hcut2:va=cut va:=by rw [cut,if_neg (by omega)]
 have HC1:=Lib.hid hcut1
 have HC2:=Lib.hid hcut2
 clear hcut1 hcut2
 clear hm hi
 obtain ⟨b,rfl⟩:∃ x:Nat,b=(x:Int):=⟨b.toNat,by omega⟩
 have hg0:=Going.start (cells ⟨3,b,g,q1,q2,q3,s1,s2,ri,se,ke,va,ve,ex⟩) hown hb
 have HOWN:=Lib.hid hown
 clear hown
 simp only [rv,cells] at hg0 ⊢
 have hlen:(bytesOf ⟨3,b,g,q1,q2,q3,s1,s2,ri,se,ke,va,ve,ex⟩).length=26+ke.size+va.size:=by simp [bytesOf,more,text,put_length,strBytes_length];try omega
 have HLEN:=Lib.hid hlen
 clear hlen
 obtain ⟨i0,hi0,hz0,hz1,hz2⟩:=info_parts u8_info
 go_enter Tryz.func66,Tryz.ntmps66
 go_wp2_with (at_builtin;refine wpList_append_onto rfl (.tmp 5) (.tmp 12) _ rfl base 5 i0 _ 1 1 Tryz.underlying115 hi0 hz0 hz1 hz2 rfl (by omega) v len (cellsOf xs) rfl (ownsRow_alloc hg0.own _) (.slice (some ⟨w.heap.size+1,0,none⟩) 2 2) 2 _ rfl (sees_two _ _ _ _ _ _ (by simp)) (by simp [Value.oneCell']) (by simp only [maxLen];omega) (by omega) (by have:=hg0.size;simp;omega) ?_;intro v1 w1 ho hon;have hg1:=hg0.stepped (ys:=xs++put 3 1++put b 1) (by rw [put_one 3 (by omega),put_one b (by omega),cellsOf_append,cellsOf_append,List.append_assoc];exact ho) hon;clear ho hon;have c2:=hg1.box.cell 2 rfl)
 clear hg0
 go_wp2_with fail
 refine (refPut_any g (by omega) 4 (by omega) v1 _ (xs++put 3 1++put b 1) base _ hg1.own hg1.size (by omega)).mono ?_
 rintro e w2 ⟨v2,rfl,ho,hon⟩
 have hg2:=hg1.step ho hon.grown
 clear ho hon hg1
 have c12:=hg2.box.cell 12 rfl
 have c0:=hg2.box.cell 0 rfl
 go_wp2_with fail
 refine (refPut_any ve (by omega) 8 (by omega) v2 _ ((xs++put 3 1++put b 1)++put g 4) base _ hg2.own hg2.size (by omega)).mono ?_
 rintro e w3 ⟨v3,rfl,ho,hon⟩
 have hg3:=hg2.step ho hon.grown
 clear ho hon hg2
 have c13:=hg3.box.cell 13 rfl
 go_wp2_with fail
 refine (refPut_any ex (by omega) 8 (by omega) v3 _ (((xs++put 3 1++put b 1)++put g 4)++put ve 8) base _ hg3.own hg3.size (by omega)).mono ?_
 rintro e w4 ⟨v4,rfl,ho,hon⟩
 have hg4:=hg3.step ho hon.grown
 clear ho hon hg3
 have c10:=hg4.box.cell 10 rfl
 go_wp2_with fail
 refine (refText_grown ke ke HC1.out v4 _ ((((xs++put 3 1++put b 1)++put g 4)++put ve 8)++put ex 8) base _ hg4.own hg4.size (by omega) (by omega)).mono ?_
 rintro e w5 ⟨v5,rfl,ho,hon⟩
 have hg5:=hg4.step ho hon
 clear ho hon hg4
 have c11:=hg5.box.cell 11 rfl
 go_wp2_with fail
 refine (refText_grown va va HC2.out v5 _ (((((xs++put 3 1++put b 1)++put g 4)++put ve 8)++put ex 8)++put ke.size 2++strBytes ke) base _ hg5.own hg5.size (by omega) (by omega)).mono ?_
 rintro e w6 ⟨v6,rfl,ho,hon⟩
 have hg6:=hg5.step ho hon
 clear ho hon hg5
 go_wp2_with fail
 go_ret
 refine ⟨_,rfl,?_,hg6.below⟩
 rw [HLEN.out]
 refine row_eq hg6.own (by omega) ?_
 simp [bytesOf,more,text]
theorem rbytes_6 (r:Rcd) (hk:r.kind=6) (hm:May r) (hi:Is r) (v:Value) (len:Nat) (xs:List Int) (base:Nat) (w:World)
  (hown:w.ownsRow base 5 1 v len (cellsOf xs)) (hb:base≤w.heap.size) (hl:len≤1000000000):Calls Tryz.prog 66 #[v,rv r] w fun e w'=>Puts base w xs len r e w':=by
 obtain ⟨k,b,g,q1,q2,q3,s1,s2,ri,se,ke,va,ve,ex⟩:=r
 simp only at hk
 subst hk
 have hb0:0≤b:=hm.2.2.1
 have hb1:b < 64:=hm.2.2.2.1
 have hgn:g < 4294967296:=hi.gen
 have hs1:s1 < 18446744073709551616:=hi.seq
 have hs2:s2 < 4294967296:=hi.serial
 have hse:se < 18446744073709551616:=hi.secret
 have hve:ve < 18446744073709551616:=hi.version
 have hex:ex < 18446744073709551616:=hi.expiry
 clear hm hi
 obtain ⟨b,rfl⟩:∃ x:Nat,b=(x:Int):=⟨b.toNat,by omega⟩
 have hg0:=Going.start (cells ⟨6,b,g,q1,q2,q3,s1,s2,ri,se,ke,va,ve,ex⟩) hown hb
 have HOWN:=Lib.hid hown
 clear hown
 simp only [rv,cells] at hg0 ⊢
 have hlen:(bytesOf ⟨6,b,g,q1,q2,q3,s1,s2,ri,se,ke,va,ve,ex⟩).length=10:=by simp [bytesOf,more,text,put_length,strBytes_length];try omega
 have HLEN:=Lib.hid hlen
 clear hlen
 obtain ⟨i0,hi0,hz0,hz1,hz2⟩:=info_parts u8_info
 go_enter Tryz.func66,Tryz.ntmps66
 go_wp2_with (at_builtin;refine wpList_append_onto rfl (.tmp 5) (.tmp 12) _ rfl base 5 i0 _ 1 1 Tryz.underlying115 hi0 hz0 hz1 hz2 rfl (by omega) v len (cellsOf xs) rfl (ownsRow_alloc hg0.own _) (.slice (some ⟨w.heap.size+1,0,none⟩) 2 2) 2 _ rfl (sees_two _ _ _ _ _ _ (by simp)) (by simp [Value.oneCell']) (by simp only [maxLen];omega) (by omega) (by have:=hg0.size;simp;omega) ?_;intro v1 w1 ho hon;have hg1:=hg0.stepped (ys:=xs++put 6 1++put b 1) (by rw [put_one 6 (by omega),put_one b (by omega),cellsOf_append,cellsOf_append,List.append_assoc];exact ho) hon;clear ho hon;have c2:=hg1.box.cell 2 rfl)
 clear hg0
 go_wp2_with fail
 refine (refPut_any g (by omega) 4 (by omega) v1 _ (xs++put 6 1++put b 1) base _ hg1.own hg1.size (by omega)).mono ?_
 rintro e w2 ⟨v2,rfl,ho,hon⟩
 have hg2:=hg1.step ho hon.grown
 clear ho hon hg1
 have c7:=hg2.box.cell 7 rfl
 have c0:=hg2.box.cell 0 rfl
 go_wp2_with fail
 refine (refPut_any s2 (by omega) 4 (by omega) v2 _ ((xs++put 6 1++put b 1)++put g 4) base _ hg2.own hg2.size (by omega)).mono ?_
 rintro e w3 ⟨v3,rfl,ho,hon⟩
 have hg3:=hg2.step ho hon.grown
 clear ho hon hg2
 go_wp2_with fail
 go_ret
 refine ⟨_,rfl,?_,hg3.below⟩
 rw [HLEN.out]
 refine row_eq hg3.own (by omega) ?_
 simp [bytesOf,more,text]
end Go.Proofs.YtgjofinbdigmcaaGreat.Rec
end
section
namespace Go.Proofs.YtgjofinbdigmcaaGreat.Rec
open Go.Proofs.YtgjofinbdigmcaaGreat.Mem Go.Proofs.YtgjofinbdigmcaaGreat.Pack
open Go.ChangeShapes Go.WideShapes Go.ChangeAt Go.RowKit
theorem rbytes_4 (r:Rcd) (hk:r.kind=4) (hm:May r) (hi:Is r) (v:Value) (len:Nat) (xs:List Int) (base:Nat) (w:World)
  (hown:w.ownsRow base 5 1 v len (cellsOf xs)) (hb:base≤w.heap.size) (hl:len≤1000000000):Calls Tryz.prog 66 #[v,rv r] w fun e w'=>Puts base w xs len r e w':=by
 obtain ⟨k,b,g,q1,q2,q3,s1,s2,ri,se,ke,va,ve,ex⟩:=r
 simp only at hk
 subst hk
 have hb0:0≤b:=hm.2.2.1
 have hb1:b < 64:=hm.2.2.2.1
 have hgn:g < 4294967296:=hi.gen
 have hs1:s1 < 18446744073709551616:=hi.seq
 have hs2:s2 < 4294967296:=hi.serial
 have hse:se < 18446744073709551616:=hi.secret
 have hve:ve < 18446744073709551616:=hi.version
 have hex:ex < 18446744073709551616:=hi.expiry
 have hf:1≤ke.size∧ke.size≤64:=hm.2.2.2.2.2.2
 obtain ⟨hke,hke'⟩:=hf
 have hcut1:ke=cut ke:=by rw [cut,if_neg (by omega)]
 have HC1:=Lib.hid hcut1
 clear hcut1
 clear hm hi
 obtain ⟨b,rfl⟩:∃ x:Nat,b=(x:Int):=⟨b.toNat,by omega⟩
 have hg0:=Going.start (cells ⟨4,b,g,q1,q2,q3,s1,s2,ri,se,ke,va,ve,ex⟩) hown hb
 have HOWN:=Lib.hid hown
 clear hown
 simp only [rv,cells] at hg0 ⊢
 have hlen:(bytesOf ⟨4,b,g,q1,q2,q3,s1,s2,ri,se,ke,va,ve,ex⟩).length=16+ke.size:=by simp [bytesOf,more,text,put_length,strBytes_length];try omega
 have HLEN:=Lib.hid hlen
 clear hlen
 obtain ⟨i0,hi0,hz0,hz1,hz2⟩:=info_parts u8_info
 go_enter Tryz.func66,Tryz.ntmps66
 go_wp2_with (at_builtin;refine wpList_append_onto rfl (.tmp 5) (.tmp 12) _ rfl base 5 i0 _ 1 1 Tryz.underlying115 hi0 hz0 hz1 hz2 rfl (by omega) v len (cellsOf xs) rfl (ownsRow_alloc hg0.own _) (.slice (some ⟨w.heap.size+1,0,none⟩) 2 2) 2 _ rfl (sees_two _ _ _ _ _ _ (by simp)) (by simp [Value.oneCell']) (by simp only [maxLen];omega) (by omega) (by have:=hg0.size;simp;omega) ?_;intro v1 w1 ho hon;have hg1:=hg0.stepped (ys:=xs++put 4 1++put b 1) (by rw [put_one 4 (by omega),put_one b (by omega),cellsOf_append,cellsOf_append,List.append_assoc];exact ho) hon;clear ho hon;have c2:=hg1.box.cell 2 rfl)
 clear hg0
 go_wp2_with fail
 refine (refPut_any g (by omega) 4 (by omega) v1 _ (xs++put 4 1++put b 1) base _ hg1.own hg1.size (by omega)).mono ?_
 rintro e w2 ⟨v2,rfl,ho,hon⟩
 have hg2:=hg1.step ho hon.grown
 clear ho hon hg1
 have c12:=hg2.box.cell 12 rfl
 have c0:=hg2.box.cell 0 rfl
 go_wp2_with fail
 refine (refPut_any ve (by omega) 8 (by omega) v2 _ ((xs++put 4 1++put b 1)++put g 4) base _ hg2.own hg2.size (by omega)).mono ?_
 rintro e w3 ⟨v3,rfl,ho,hon⟩
 have hg3:=hg2.step ho hon.grown
 clear ho hon hg2
 have c10:=hg3.box.cell 10 rfl
 go_wp2_with fail
 refine (refText_grown ke ke HC1.out v3 _ (((xs++put 4 1++put b 1)++put g 4)++put ve 8) base _ hg3.own hg3.size (by omega) (by omega)).mono ?_
 rintro e w4 ⟨v4,rfl,ho,hon⟩
 have hg4:=hg3.step ho hon
 clear ho hon hg3
 go_wp2_with fail
 go_ret
 refine ⟨_,rfl,?_,hg4.below⟩
 rw [HLEN.out]
 refine row_eq hg4.own (by omega) ?_
 simp [bytesOf,more,text]
theorem rbytes_5 (r:Rcd) (hk:r.kind=5) (hm:May r) (hi:Is r) (v:Value) (len:Nat) (xs:List Int) (base:Nat) (w:World)
  (hown:w.ownsRow base 5 1 v len (cellsOf xs)) (hb:base≤w.heap.size) (hl:len≤1000000000):Calls Tryz.prog 66 #[v,rv r] w fun e w'=>Puts base w xs len r e w':=by
 obtain ⟨k,b,g,q1,q2,q3,s1,s2,ri,se,ke,va,ve,ex⟩:=r
 simp only at hk
 subst hk
 have hb0:0≤b:=hm.2.2.1
 have hb1:b < 64:=hm.2.2.2.1
 have hgn:g < 4294967296:=hi.gen
 have hs1:s1 < 18446744073709551616:=hi.seq
 have hs2:s2 < 4294967296:=hi.serial
 have hse:se < 18446744073709551616:=hi.secret
 have hve:ve < 18446744073709551616:=hi.version
 have hex:ex < 18446744073709551616:=hi.expiry
 have hf:1≤ri∧ri≤7:=hm.2.2.2.2.2.2
 obtain ⟨hri,hri'⟩:=hf
 clear hm hi
 obtain ⟨b,rfl⟩:∃ x:Nat,b=(x:Int):=⟨b.toNat,by omega⟩
 obtain ⟨ri,rfl⟩:∃ x:Nat,ri=(x:Int):=⟨ri.toNat,by omega⟩
 have hg0:=Going.start (cells ⟨5,b,g,q1,q2,q3,s1,s2,ri,se,ke,va,ve,ex⟩) hown hb
 have HOWN:=Lib.hid hown
 clear hown
 simp only [rv,cells] at hg0 ⊢
 have hlen:(bytesOf ⟨5,b,g,q1,q2,q3,s1,s2,ri,se,ke,va,ve,ex⟩).length=19:=by simp [bytesOf,more,text,put_length,strBytes_length];try omega
 have HLEN:=Lib.hid hlen
 clear hlen
 obtain ⟨i0,hi0,hz0,hz1,hz2⟩:=info_parts u8_info
 go_enter Tryz.func66,Tryz.ntmps66
 go_wp2_with (at_builtin;refine wpList_append_onto rfl (.tmp 5) (.tmp 12) _ rfl base 5 i0 _ 1 1 Tryz.underlying115 hi0 hz0 hz1 hz2 rfl (by omega) v len (cellsOf xs) rfl (ownsRow_alloc hg0.own _) (.slice (some ⟨w.heap.size+1,0,none⟩) 2 2) 2 _ rfl (sees_two _ _ _ _ _ _ (by simp)) (by simp [Value.oneCell']) (by simp only [maxLen];omega) (by omega) (by have:=hg0.size;simp;omega) ?_;intro v1 w1 ho hon;have hg1:=hg0.stepped (ys:=xs++put 5 1++put b 1) (by rw [put_one 5 (by omega),put_one b (by omega),cellsOf_append,cellsOf_append,List.append_assoc];exact ho) hon;clear ho hon;have c2:=hg1.box.cell 2 rfl)
 clear hg0
 go_wp2_with fail
 refine (refPut_any g (by omega) 4 (by omega) v1 _ (xs++put 5 1++put b 1) base _ hg1.own hg1.size (by omega)).mono ?_
 rintro e w2 ⟨v2,rfl,ho,hon⟩
 have hg2:=hg1.step ho hon.grown
 clear ho hon hg1
 have c7:=hg2.box.cell 7 rfl
 have c0:=hg2.box.cell 0 rfl
 go_wp2_with fail
 refine (refPut_any s2 (by omega) 4 (by omega) v2 _ ((xs++put 5 1++put b 1)++put g 4) base _ hg2.own hg2.size (by omega)).mono ?_
 rintro e w3 ⟨v3,rfl,ho,hon⟩
 have hg3:=hg2.step ho hon.grown
 clear ho hon hg2
 have c8:=hg3.box.cell 8 rfl
 go_wp2_with (at_builtin;refine wpList_append_onto rfl (.tmp 85) (.tmp 89) _ rfl base 5 i0 _ 1 1 Tryz.underlying115 hi0 hz0 hz1 hz2 rfl (by omega) v3 _ (cellsOf (((xs++put 5 1++put b 1)++put g 4)++put s2 4)) rfl (ownsRow_alloc hg3.own _) _ 1 _ rfl (sees_one _ _ _ _) (by simp [Value.oneCell']) (by simp only [maxLen];omega) (by omega) (by have:=hg3.size;simp;omega) ?_;intro v4 w4 ho hon;have hg4:=hg3.stepped (ys:=(((xs++put 5 1++put b 1)++put g 4)++put s2 4)++put ri 1) (by rw [put_one ri (by omega),cellsOf_append];exact ho) hon;clear ho hon;have c9:=hg4.box.cell 9 rfl)
 clear hg3
 go_wp2_with fail
 refine (refPut_any se (by omega) 8 (by omega) v4 _ ((((xs++put 5 1++put b 1)++put g 4)++put s2 4)++put ri 1) base _ hg4.own hg4.size (by omega)).mono ?_
 rintro e w5 ⟨v5,rfl,ho,hon⟩
 have hg5:=hg4.step ho hon.grown
 clear ho hon hg4
 go_wp2_with fail
 go_ret
 refine ⟨_,rfl,?_,hg5.below⟩
 rw [HLEN.out]
 refine row_eq hg5.own (by omega) ?_
 simp [bytesOf,more,text]
theorem rbytes_7 (r:Rcd) (hk:r.kind=7) (hm:May r) (hi:Is r) (v:Value) (len:Nat) (xs:List Int) (base:Nat) (w:World)
  (hown:w.ownsRow base 5 1 v len (cellsOf xs)) (hb:base≤w.heap.size) (hl:len≤1000000000):Calls Tryz.prog 66 #[v,rv r] w fun e w'=>Puts base w xs len r e w':=by
 obtain ⟨k,b,g,q1,q2,q3,s1,s2,ri,se,ke,va,ve,ex⟩:=r
 simp only at hk
 subst hk
 have hb0:0≤b:=hm.2.2.1
 have hb1:b < 64:=hm.2.2.2.1
 have hgn:g < 4294967296:=hi.gen
 have hs1:s1 < 18446744073709551616:=hi.seq
 have hs2:s2 < 4294967296:=hi.serial
 have hse:se < 18446744073709551616:=hi.secret
 have hve:ve < 18446744073709551616:=hi.version
 have hex:ex < 18446744073709551616:=hi.expiry
 clear hm hi
 obtain ⟨b,rfl⟩:∃ x:Nat,b=(x:Int):=⟨b.toNat,by omega⟩
 have hg0:=Going.start (cells ⟨7,b,g,q1,q2,q3,s1,s2,ri,se,ke,va,ve,ex⟩) hown hb
 have HOWN:=Lib.hid hown
 clear hown
 simp only [rv,cells] at hg0 ⊢
 have hlen:(bytesOf ⟨7,b,g,q1,q2,q3,s1,s2,ri,se,ke,va,ve,ex⟩).length=6:=by simp [bytesOf,more,text,put_length,strBytes_length];try omega
 have HLEN:=Lib.hid hlen
 clear hlen
 obtain ⟨i0,hi0,hz0,hz1,hz2⟩:=info_parts u8_info
 go_enter Tryz.func66,Tryz.ntmps66
 go_wp2_with (at_builtin;refine wpList_append_onto rfl (.tmp 5) (.tmp 12) _ rfl base 5 i0 _ 1 1 Tryz.underlying115 hi0 hz0 hz1 hz2 rfl (by omega) v len (cellsOf xs) rfl (ownsRow_alloc hg0.own _) (.slice (some ⟨w.heap.size+1,0,none⟩) 2 2) 2 _ rfl (sees_two _ _ _ _ _ _ (by simp)) (by simp [Value.oneCell']) (by simp only [maxLen];omega) (by omega) (by have:=hg0.size;simp;omega) ?_;intro v1 w1 ho hon;have hg1:=hg0.stepped (ys:=xs++put 7 1++put b 1) (by rw [put_one 7 (by omega),put_one b (by omega),cellsOf_append,cellsOf_append,List.append_assoc];exact ho) hon;clear ho hon;have c2:=hg1.box.cell 2 rfl)
 clear hg0
 go_wp2_with fail
 refine (refPut_any g (by omega) 4 (by omega) v1 _ (xs++put 7 1++put b 1) base _ hg1.own hg1.size (by omega)).mono ?_
 rintro e w2 ⟨v2,rfl,ho,hon⟩
 have hg2:=hg1.step ho hon.grown
 clear ho hon hg1
 have c0:=hg2.box.cell 0 rfl
 go_wp2_with fail
 go_ret
 refine ⟨_,rfl,?_,hg2.below⟩
 rw [HLEN.out]
 refine row_eq hg2.own (by omega) ?_
 simp [bytesOf,more,text]
end Go.Proofs.YtgjofinbdigmcaaGreat.Rec
end

/- What a record is with just the fields that its kind names: the walks of record.named. Whether a key and a quota may be: the walks of record.mayBeKey and record.mayBeQuota. Whether a record may be: the walks of record.May. -/
import Derived.Test.YtgjofinbdigmcaaGreatG14
import Derived.Test.YtgjofinbdigmcaaGreatG15
import Derived.Test.YtgjofinbdigmcaaGreatG12
import Derived.Test.YtgjofinbdigmcaaGreatG03
set_option linter.unusedSimpArgs false
set_option linter.unusedVariables false
set_option maxHeartbeats 2000000
set_option maxRecDepth 100000
section
namespace Go.Proofs.YtgjofinbdigmcaaGreat.Rec
open Go.Proofs.YtgjofinbdigmcaaGreat.Mem Go.Proofs.YtgjofinbdigmcaaGreat.Pack
open Go.ChangeShapes Go.WideShapes Go.ChangeAt Go.RowKit
theorem named_any (r:Rcd) (w:World):Calls Tryz.prog 58 #[rv r] w fun e w'=>e = .returned (rv (named r))∧Below w.heap.size w w':=by
 by_cases h0:r.kind < 1∨7 < r.kind
 ·exact named_0 r h0 w
 have h:r.kind=1∨r.kind=2∨r.kind=3∨r.kind=4∨r.kind=5∨r.kind=6∨r.kind=7:=by omega
 rcases h with h|h|h|h|h|h|h
 ·exact named_1 r h w
 ·exact named_2 r h w
 ·exact named_3 r h w
 ·exact named_4 r h w
 ·exact named_5 r h w
 ·exact named_6 r h w
 ·exact named_7 r h w
end Go.Proofs.YtgjofinbdigmcaaGreat.Rec
end
section
namespace Go.Proofs.YtgjofinbdigmcaaGreat.Rec
open Go.Proofs.YtgjofinbdigmcaaGreat.Mem Go.Proofs.YtgjofinbdigmcaaGreat.Pack
open Go.ChangeShapes Go.WideShapes Go.ChangeAt Go.RowKit
theorem key_yes (s:ByteArray) (h:keyMay s) (w:World):Calls Tryz.prog 60 #[.string s] w fun e w'=>e = .returned (.bool true)∧w=w':=by
 obtain ⟨h1,h2⟩:=h
 have d2:decide ((s.size:Int)≤64)=true:=decide_eq_true (by omega)
 go_enter Tryz.func60,Tryz.ntmps60
 go_wp2
 go_ret
 exact ⟨rfl,rfl⟩
theorem key_no (s:ByteArray) (h:¬ keyMay s) (w:World):Calls Tryz.prog 60 #[.string s] w fun e w'=>e = .returned (.bool false)∧w=w':=by
 by_cases h1:1≤s.size
 ·have h2:¬ ((s.size:Int)≤64):=by intro e;exact h ⟨h1,by omega⟩
  have d2:decide ((s.size:Int)≤64)=false:=decide_eq_false h2
  have d1:decide (1≤(s.size:Int))=true:=decide_eq_true (by omega)
  clear h
  go_enter Tryz.func60,Tryz.ntmps60
  go_wp2
  go_ret
  exact ⟨rfl,rfl⟩
 ·have d1:decide (1≤(s.size:Int))=false:=decide_eq_false (by omega)
  clear h
  go_enter Tryz.func60,Tryz.ntmps60
  go_wp2
  go_ret
  exact ⟨rfl,rfl⟩
theorem quota_yes (q1 q2 q3:Int) (h:inQ q1∧inQ q2∧inQ q3) (w:World):Calls Tryz.prog 59 #[.agg #[.int .i64 q1,.int .i64 q2,.int .i64 q3]] w fun e w'=>e = .returned (.bool true)∧Below w.heap.size w w':=by
 obtain ⟨⟨a1,b1⟩,⟨a2,b2⟩,⟨a3,b3⟩⟩:=h
 have i0:∀ w:World,(Instr.index 134 (.agg #[.int .i64 q1,.int .i64 q2,.int .i64 q3]) (.int .i64 0)).run Tryz.prog w = .ok (.int .i64 q1) w:=fun _=>by kernel_rfl
 have i1:∀ w:World,(Instr.index 134 (.agg #[.int .i64 q1,.int .i64 q2,.int .i64 q3]) (.int .i64 1)).run Tryz.prog w = .ok (.int .i64 q2) w:=fun _=>by kernel_rfl
 have i2:∀ w:World,(Instr.index 134 (.agg #[.int .i64 q1,.int .i64 q2,.int .i64 q3]) (.int .i64 2)).run Tryz.prog w = .ok (.int .i64 q3) w:=fun _=>by kernel_rfl
 go_enter Tryz.func59,Tryz.ntmps59
 go_wp2
 refine wp_loop_rounds 4 ?_
 rw [rounds_succ]
 go_wp2_with fail
 rw [rounds_succ]
 go_wp2_with fail
 rw [rounds_succ]
 go_wp2_with fail
 rw [rounds_succ]
 go_wp2_with fail
 go_ret
 exact ⟨rfl,(Below.refl _ w).alloc (Nat.le_refl _) _⟩
theorem quota_low1 (q1 q2 q3:Int) (h:q1 < 0) (w:World):Calls Tryz.prog 59 #[.agg #[.int .i64 q1,.int .i64 q2,.int .i64 q3]] w fun e w'=>e = .returned (.bool false)∧Below w.heap.size w w':=by
 have i0:∀ w:World,(Instr.index 134 (.agg #[.int .i64 q1,.int .i64 q2,.int .i64 q3]) (.int .i64 0)).run Tryz.prog w = .ok (.int .i64 q1) w:=fun _=>by kernel_rfl
 have i1:∀ w:World,(Instr.index 134 (.agg #[.int .i64 q1,.int .i64 q2,.int .i64 q3]) (.int .i64 1)).run Tryz.prog w = .ok (.int .i64 q2) w:=fun _=>by kernel_rfl
 have i2:∀ w:World,(Instr.index 134 (.agg #[.int .i64 q1,.int .i64 q2,.int .i64 q3]) (.int .i64 2)).run Tryz.prog w = .ok (.int .i64 q3) w:=fun _=>by kernel_rfl
 go_enter Tryz.func59,Tryz.ntmps59
 go_wp2
 refine wp_loop_rounds 4 ?_
 rw [rounds_succ]
 go_wp2_with fail
 go_ret
 exact ⟨rfl,(Below.refl _ w).alloc (Nat.le_refl _) _⟩
theorem quota_high1 (q1 q2 q3:Int) (h:1099511627776 < q1) (w:World):Calls Tryz.prog 59 #[.agg #[.int .i64 q1,.int .i64 q2,.int .i64 q3]] w fun e w'=>e = .returned (.bool false)∧Below w.heap.size w w':=by
 have a1:0≤q1:=by omega
 have i0:∀ w:World,(Instr.index 134 (.agg #[.int .i64 q1,.int .i64 q2,.int .i64 q3]) (.int .i64 0)).run Tryz.prog w = .ok (.int .i64 q1) w:=fun _=>by kernel_rfl
 have i1:∀ w:World,(Instr.index 134 (.agg #[.int .i64 q1,.int .i64 q2,.int .i64 q3]) (.int .i64 1)).run Tryz.prog w = .ok (.int .i64 q2) w:=fun _=>by kernel_rfl
 have i2:∀ w:World,(Instr.index 134 (.agg #[.int .i64 q1,.int .i64 q2,.int .i64 q3]) (.int .i64 2)).run Tryz.prog w = .ok (.int .i64 q3) w:=fun _=>by kernel_rfl
 go_enter Tryz.func59,Tryz.ntmps59
 go_wp2
 refine wp_loop_rounds 4 ?_
 rw [rounds_succ]
 go_wp2_with fail
 go_ret
 exact ⟨rfl,(Below.refl _ w).alloc (Nat.le_refl _) _⟩
theorem quota_low2 (q1 q2 q3:Int) (h1:inQ q1) (h:q2 < 0) (w:World):Calls Tryz.prog 59 #[.agg #[.int .i64 q1,.int .i64 q2,.int .i64 q3]] w fun e w'=>e = .returned (.bool false)∧Below w.heap.size w w':=by
 obtain ⟨a1,b1⟩:=h1
 have i0:∀ w:World,(Instr.index 134 (.agg #[.int .i64 q1,.int .i64 q2,.int .i64 q3]) (.int .i64 0)).run Tryz.prog w = .ok (.int .i64 q1) w:=fun _=>by kernel_rfl
 have i1:∀ w:World,(Instr.index 134 (.agg #[.int .i64 q1,.int .i64 q2,.int .i64 q3]) (.int .i64 1)).run Tryz.prog w = .ok (.int .i64 q2) w:=fun _=>by kernel_rfl
 have i2:∀ w:World,(Instr.index 134 (.agg #[.int .i64 q1,.int .i64 q2,.int .i64 q3]) (.int .i64 2)).run Tryz.prog w = .ok (.int .i64 q3) w:=fun _=>by kernel_rfl
 go_enter Tryz.func59,Tryz.ntmps59
 go_wp2
 refine wp_loop_rounds 4 ?_
 rw [rounds_succ]
 go_wp2_with fail
 rw [rounds_succ]
 go_wp2_with fail
 go_ret
 exact ⟨rfl,(Below.refl _ w).alloc (Nat.le_refl _) _⟩
theorem quota_high2 (q1 q2 q3:Int) (h1:inQ q1) (h:1099511627776 < q2) (w:World):Calls Tryz.prog 59 #[.agg #[.int .i64 q1,.int .i64 q2,.int .i64 q3]] w fun e w'=>e = .returned (.bool false)∧Below w.heap.size w w':=by
 obtain ⟨a1,b1⟩:=h1
 have a2:0≤q2:=by omega
 have i0:∀ w:World,(Instr.index 134 (.agg #[.int .i64 q1,.int .i64 q2,.int .i64 q3]) (.int .i64 0)).run Tryz.prog w = .ok (.int .i64 q1) w:=fun _=>by kernel_rfl
 have i1:∀ w:World,(Instr.index 134 (.agg #[.int .i64 q1,.int .i64 q2,.int .i64 q3]) (.int .i64 1)).run Tryz.prog w = .ok (.int .i64 q2) w:=fun _=>by kernel_rfl
 have i2:∀ w:World,(Instr.index 134 (.agg #[.int .i64 q1,.int .i64 q2,.int .i64 q3]) (.int .i64 2)).run Tryz.prog w = .ok (.int .i64 q3) w:=fun _=>by kernel_rfl
 go_enter Tryz.func59,Tryz.ntmps59
 go_wp2
 refine wp_loop_rounds 4 ?_
 rw [rounds_succ]
 go_wp2_with fail
 rw [rounds_succ]
 go_wp2_with fail
 go_ret
 exact ⟨rfl,(Below.refl _ w).alloc (Nat.le_refl _) _⟩
theorem quota_low3 (q1 q2 q3:Int) (h1:inQ q1) (h2:inQ q2) (h:q3 < 0) (w:World):Calls Tryz.prog 59 #[.agg #[.int .i64 q1,.int .i64 q2,.int .i64 q3]] w fun e w'=>e = .returned (.bool false)∧Below w.heap.size w w':=by
 obtain ⟨a1,b1⟩:=h1
 obtain ⟨a2,b2⟩:=h2
 have i0:∀ w:World,(Instr.index 134 (.agg #[.int .i64 q1,.int .i64 q2,.int .i64 q3]) (.int .i64 0)).run Tryz.prog w = .ok (.int .i64 q1) w:=fun _=>by kernel_rfl
 have i1:∀ w:World,(Instr.index 134 (.agg #[.int .i64 q1,.int .i64 q2,.int .i64 q3]) (.int .i64 1)).run Tryz.prog w = .ok (.int .i64 q2) w:=fun _=>by kernel_rfl
 have i2:∀ w:World,(Instr.index 134 (.agg #[.int .i64 q1,.int .i64 q2,.int .i64 q3]) (.int .i64 2)).run Tryz.prog w = .ok (.int .i64 q3) w:=fun _=>by kernel_rfl
 go_enter Tryz.func59,Tryz.ntmps59
 go_wp2
 refine wp_loop_rounds 4 ?_
 rw [rounds_succ]
 go_wp2_with fail
 rw [rounds_succ]
 go_wp2_with fail
 rw [rounds_succ]
 go_wp2_with fail
 go_ret
 exact ⟨rfl,(Below.refl _ w).alloc (Nat.le_refl _) _⟩
theorem quota_high3 (q1 q2 q3:Int) (h1:inQ q1) (h2:inQ q2) (h:1099511627776 < q3) (w:World):Calls Tryz.prog 59 #[.agg #[.int .i64 q1,.int .i64 q2,.int .i64 q3]] w fun e w'=>e = .returned (.bool false)∧Below w.heap.size w w':=by
 obtain ⟨a1,b1⟩:=h1
 obtain ⟨a2,b2⟩:=h2
 have a3:0≤q3:=by omega
 have i0:∀ w:World,(Instr.index 134 (.agg #[.int .i64 q1,.int .i64 q2,.int .i64 q3]) (.int .i64 0)).run Tryz.prog w = .ok (.int .i64 q1) w:=fun _=>by kernel_rfl
 have i1:∀ w:World,(Instr.index 134 (.agg #[.int .i64 q1,.int .i64 q2,.int .i64 q3]) (.int .i64 1)).run Tryz.prog w = .ok (.int .i64 q2) w:=fun _=>by kernel_rfl
 have i2:∀ w:World,(Instr.index 134 (.agg #[.int .i64 q1,.int .i64 q2,.int .i64 q3]) (.int .i64 2)).run Tryz.prog w = .ok (.int .i64 q3) w:=fun _=>by kernel_rfl
 go_enter Tryz.func59,Tryz.ntmps59
 go_wp2
 refine wp_loop_rounds 4 ?_
 rw [rounds_succ]
 go_wp2_with fail
 rw [rounds_succ]
 go_wp2_with fail
 rw [rounds_succ]
 go_wp2_with fail
 go_ret
 exact ⟨rfl,(Below.refl _ w).alloc (Nat.le_refl _) _⟩
theorem quota_no (q1 q2 q3:Int) (h:¬ (inQ q1∧inQ q2∧inQ q3)) (w:World):Calls Tryz.prog 59 #[.agg #[.int .i64 q1,.int .i64 q2,.int .i64 q3]] w fun e w'=>e = .returned (.bool false)∧Below w.heap.size w w':=by
 by_cases h1:inQ q1
 ·by_cases h2:inQ q2
  ·by_cases h3:inQ q3
   ·exact absurd ⟨h1,h2,h3⟩ h
   ·by_cases g:q3 < 0
    ·exact quota_low3 q1 q2 q3 h1 h2 g w
    ·exact quota_high3 q1 q2 q3 h1 h2 (by unfold inQ at h3;omega) w
  ·by_cases g:q2 < 0
   ·exact quota_low2 q1 q2 q3 h1 g w
   ·exact quota_high2 q1 q2 q3 h1 (by unfold inQ at h2;omega) w
 ·by_cases g:q1 < 0
  ·exact quota_low1 q1 q2 q3 g w
  ·exact quota_high1 q1 q2 q3 (by unfold inQ at h1;omega) w
end Go.Proofs.YtgjofinbdigmcaaGreat.Rec
end
section
namespace Go.Proofs.YtgjofinbdigmcaaGreat.Rec
open Go.Proofs.YtgjofinbdigmcaaGreat.Mem Go.Proofs.YtgjofinbdigmcaaGreat.Pack
open Go.ChangeShapes Go.WideShapes Go.ChangeAt Go.RowKit
theorem may_neq (r:Rcd) (hr:¬ r=named r) (w:World):Calls Tryz.prog 28 #[rv r] w fun e w'=>e = .returned (.bool false)∧Below w.heap.size w w':=by
 have hn:=fun w=>named_any r w
 have hne:=fun w=>rec_neq r (named r) w
 have heq:=fun w=>rec_equal r (named r) w
 rw [decide_eq_false hr] at hne heq
 simp only [Bool.not_false] at hne
 obtain ⟨⟨k',b',g',q1',q2',q3',s1',s2',ri',se',ke',va',ve',ex'⟩,hq⟩:∃ q,q=named r:=⟨_,rfl⟩
 rw [← hq] at hn hne heq
 clear hq hr
 obtain ⟨k,b,g,q1,q2,q3,s1,s2,ri,se,ke,va,ve,ex⟩:=r
 simp only [rv,cells] at hn hne heq ⊢
 have HN:=Lib.hid hn
 clear hn
 have hx:Box (w.alloc (.cells (cells ⟨k,b,g,q1,q2,q3,s1,s2,ri,se,ke,va,ve,ex⟩) 35)) w.heap.size (cells ⟨k,b,g,q1,q2,q3,s1,s2,ri,se,ke,va,ve,ex⟩):=heap_new _ _
 simp only [cells] at hx
 go_enter Tryz.func28,Tryz.ntmps28
 go_wp2_with fail
 refine Late.region_goes (fun u=>Box u w.heap.size #[.int .i64 k,.int .i64 b,.int .u32 (g:Int),.int .i64 q1,.int .i64 q2,.int .i64 q3,.int .u64 (s1:Int),.int .u32 (s2:Int),.int .i64 ri,.int .u64 (se:Int),.string ke,.string va,.int .u64 (ve:Int),.int .u64 (ex:Int)]) (fun _=>false) (by kernel_rfl) ?_ (fun hH=>?_)
 ·exact hx
 refine Late.Goes.take (i:=0) (v:=?_) (by simp only [List.getElem?_toArray,List.getElem?_cons_succ,List.getElem?_cons_zero];rfl) (by kernel_rfl) (by kernel_rfl) (by kernel_rfl) (by kernel_rfl) (by exact fun _ _ _ h=>h) (Or.inl ⟨by rfl,?_⟩) hH ?_
 rotate_left
 ·(intro wy hSw;(try dsimp only at hSw);have c0:=Box.cell hSw 0 rfl;have c1:=Box.cell hSw 1 rfl;have c2:=Box.cell hSw 2 rfl;have c3:=Box.cell hSw 3 rfl;have c4:=Box.cell hSw 4 rfl;have c5:=Box.cell hSw 5 rfl;have c6:=Box.cell hSw 6 rfl;have c7:=Box.cell hSw 7 rfl;have c8:=Box.cell hSw 8 rfl;have c9:=Box.cell hSw 9 rfl;have c10:=Box.cell hSw 10 rfl;have c11:=Box.cell hSw 11 rfl;have c12:=Box.cell hSw 12 rfl;have c13:=Box.cell hSw 13 rfl;go_simp;try (with_reducible rfl))
 try simp only [Act.put,List.setIfInBounds_toArray,List.set_cons_zero,List.set_cons_succ]
 refine Late.Goes.take (i:=1) (v:=?_) (by simp only [List.getElem?_toArray,List.getElem?_cons_succ,List.getElem?_cons_zero];rfl) (by kernel_rfl) (by kernel_rfl) (by kernel_rfl) (by kernel_rfl) (by exact fun _ _ _ h=>h) (Or.inl ⟨by rfl,?_⟩) hH ?_
 rotate_left
 ·(intro wy hSw;(try dsimp only at hSw);have c0:=Box.cell hSw 0 rfl;have c1:=Box.cell hSw 1 rfl;have c2:=Box.cell hSw 2 rfl;have c3:=Box.cell hSw 3 rfl;have c4:=Box.cell hSw 4 rfl;have c5:=Box.cell hSw 5 rfl;have c6:=Box.cell hSw 6 rfl;have c7:=Box.cell hSw 7 rfl;have c8:=Box.cell hSw 8 rfl;have c9:=Box.cell hSw 9 rfl;have c10:=Box.cell hSw 10 rfl;have c11:=Box.cell hSw 11 rfl;have c12:=Box.cell hSw 12 rfl;have c13:=Box.cell hSw 13 rfl;go_simp;try (with_reducible rfl))
 try simp only [Act.put,List.setIfInBounds_toArray,List.set_cons_zero,List.set_cons_succ]
 refine Late.Goes.one (i:=2) (by kernel_rfl) (by simp only [List.getElem?_toArray,List.getElem?_cons_succ,List.getElem?_cons_zero];rfl) (fun K hK=>?_)
 clear hH
 go_simp
 go_at_call 58
 refine (HN.out _).mono ?_
 rintro e w1 ⟨rfl,hb⟩
 have hx1:Box w1 w.heap.size #[.int .i64 k,.int .i64 b,.int .u32 (g:Int),.int .i64 q1,.int .i64 q2,.int .i64 q3,.int .u64 (s1:Int),.int .u32 (s2:Int),.int .i64 ri,.int .u64 (se:Int),.string ke,.string va,.int .u64 (ve:Int),.int .u64 (ex:Int)]:=(hb.block w.heap.size (by simp)).trans (heap_new w _)
 have hb1:Below w.heap.size w w1:=((Below.refl _ w).alloc (Nat.le_refl _) _).drew.trans (hb.mono (by simp))
 have HB:=Lib.hid hb1
 have c0:w1.cell? ⟨w.heap.size,0,none⟩=some (.int .i64 k):=hx1.cell 0 rfl
 have c1:w1.cell? ⟨w.heap.size,1,none⟩=some (.int .i64 b):=hx1.cell 1 rfl
 have c2:w1.cell? ⟨w.heap.size,2,none⟩=some (.int .u32 (g:Int)):=hx1.cell 2 rfl
 have HX1:=Lib.hid hx1
 clear hb hb1 hx1
 refine hK.out _ _ ?_ (fun hH=>?_)
 ·exact fun _=>HX1.out
 clear hK K
 have hH:=hH rfl
 try simp only [Act.put,List.setIfInBounds_toArray,List.set_cons_zero,List.set_cons_succ]
 refine Late.Goes.one (i:=3) (by kernel_rfl) (by simp only [List.getElem?_toArray,List.getElem?_cons_succ,List.getElem?_cons_zero];rfl) (fun K hK=>?_)
 clear hH
 go_simp
 refine hK.out _ _ ?_ (fun hH=>?_)
 ·exact fun _=>HX1.out
 clear hK K
 have hH:=hH rfl
 try simp only [Act.put,List.setIfInBounds_toArray,List.set_cons_zero,List.set_cons_succ]
 refine Late.Goes.one (i:=4) (by kernel_rfl) (by simp only [List.getElem?_toArray,List.getElem?_cons_succ,List.getElem?_cons_zero];rfl) (fun K hK=>?_)
 clear hH
 go_simp
 refine hK.out _ _ ?_ (fun hH=>?_)
 ·exact fun _=>HX1.out
 clear hK K
 have hH:=hH rfl
 try simp only [Act.put,List.setIfInBounds_toArray,List.set_cons_zero,List.set_cons_succ]
 refine Late.Goes.one (i:=5) (by kernel_rfl) (by simp only [List.getElem?_toArray,List.getElem?_cons_succ,List.getElem?_cons_zero];rfl) (fun K hK=>?_)
 clear hH
 go_simp
 refine hK.out _ _ ?_ (fun hH=>?_)
 ·exact fun _=>HX1.out
 clear hK K
 have hH:=hH rfl
 try simp only [Act.put,List.setIfInBounds_toArray,List.set_cons_zero,List.set_cons_succ]
 refine Late.Goes.one (i:=6) (by kernel_rfl) (by simp only [List.getElem?_toArray,List.getElem?_cons_succ,List.getElem?_cons_zero];rfl) (fun K hK=>?_)
 clear hH
 go_simp
 refine hK.out _ _ ?_ (fun hH=>?_)
 ·exact fun _=>HX1.out
 clear hK K
 have hH:=hH rfl
 try simp only [Act.put,List.setIfInBounds_toArray,List.set_cons_zero,List.set_cons_succ]
 refine Late.Goes.one (i:=7) (by kernel_rfl) (by simp only [List.getElem?_toArray,List.getElem?_cons_succ,List.getElem?_cons_zero];rfl) (fun K hK=>?_)
 clear hH
 go_simp
 refine hK.out _ _ ?_ (fun hH=>?_)
 ·exact fun _=>HX1.out
 clear hK K
 have hH:=hH rfl
 try simp only [Act.put,List.setIfInBounds_toArray,List.set_cons_zero,List.set_cons_succ]
 refine Late.Goes.one (i:=8) (by kernel_rfl) (by simp only [List.getElem?_toArray,List.getElem?_cons_succ,List.getElem?_cons_zero];rfl) (fun K hK=>?_)
 clear hH
 go_simp
 refine hK.out _ _ ?_ (fun hH=>?_)
 ·exact fun _=>HX1.out
 clear hK K
 have hH:=hH rfl
 try simp only [Act.put,List.setIfInBounds_toArray,List.set_cons_zero,List.set_cons_succ]
 refine Late.Goes.one (i:=9) (by kernel_rfl) (by simp only [List.getElem?_toArray,List.getElem?_cons_succ,List.getElem?_cons_zero];rfl) (fun K hK=>?_)
 clear hH
 go_simp
 refine hK.out _ _ ?_ (fun hH=>?_)
 ·exact fun _=>HX1.out
 clear hK K
 have hH:=hH rfl
 try simp only [Act.put,List.setIfInBounds_toArray,List.set_cons_zero,List.set_cons_succ]
 refine Late.Goes.one (i:=10) (by kernel_rfl) (by simp only [List.getElem?_toArray,List.getElem?_cons_succ,List.getElem?_cons_zero];rfl) (fun K hK=>?_)
 clear hH
 go_simp
 refine hK.out _ _ ?_ (fun hH=>?_)
 ·exact fun _=>HX1.out
 clear hK K
 have hH:=hH rfl
 try simp only [Act.put,List.setIfInBounds_toArray,List.set_cons_zero,List.set_cons_succ]
 refine Late.Goes.one (i:=11) (by kernel_rfl) (by simp only [List.getElem?_toArray,List.getElem?_cons_succ,List.getElem?_cons_zero];rfl) (fun K hK=>?_)
 clear hH
 go_simp
 refine hK.out _ _ ?_ (fun hH=>?_)
 ·exact fun _=>HX1.out
 clear hK K
 have hH:=hH rfl
 try simp only [Act.put,List.setIfInBounds_toArray,List.set_cons_zero,List.set_cons_succ]
 refine Late.Goes.one (i:=12) (by kernel_rfl) (by simp only [List.getElem?_toArray,List.getElem?_cons_succ,List.getElem?_cons_zero];rfl) (fun K hK=>?_)
 clear hH
 go_simp
 refine hK.out _ _ ?_ (fun hH=>?_)
 ·exact fun _=>HX1.out
 clear hK K
 have hH:=hH rfl
 try simp only [Act.put,List.setIfInBounds_toArray,List.set_cons_zero,List.set_cons_succ]
 refine Late.Goes.one (i:=13) (by kernel_rfl) (by simp only [List.getElem?_toArray,List.getElem?_cons_succ,List.getElem?_cons_zero];rfl) (fun K hK=>?_)
 clear hH
 go_simp
 refine hK.out _ _ ?_ (fun hH=>?_)
 ·exact fun _=>HX1.out
 clear hK K
 have hH:=hH rfl
 try simp only [Act.put,List.setIfInBounds_toArray,List.set_cons_zero,List.set_cons_succ]
 refine Late.Goes.one (i:=14) (by kernel_rfl) (by simp only [List.getElem?_toArray,List.getElem?_cons_succ,List.getElem?_cons_zero];rfl) (fun K hK=>?_)
 clear hH
 go_simp
 refine hK.out _ _ ?_ (fun hH=>?_)
 ·exact fun _=>HX1.out
 clear hK K
 have hH:=hH rfl
 try simp only [Act.put,List.setIfInBounds_toArray,List.set_cons_zero,List.set_cons_succ]
 refine Late.Goes.one (i:=15) (by kernel_rfl) (by simp only [List.getElem?_toArray,List.getElem?_cons_succ,List.getElem?_cons_zero];rfl) (fun K hK=>?_)
 clear hH
 go_simp
 refine hK.out _ _ ?_ (fun hH=>?_)
 ·exact fun _=>HX1.out
 clear hK K
 have hH:=hH rfl
 try simp only [Act.put,List.setIfInBounds_toArray,List.set_cons_zero,List.set_cons_succ]
 refine Late.Goes.one (i:=16) (by kernel_rfl) (by simp only [List.getElem?_toArray,List.getElem?_cons_succ,List.getElem?_cons_zero];rfl) (fun K hK=>?_)
 clear hH
 go_simp
 refine hK.out _ _ ?_ (fun hH=>?_)
 ·exact fun _=>HX1.out
 clear hK K
 have hH:=hH rfl
 try simp only [Act.put,List.setIfInBounds_toArray,List.set_cons_zero,List.set_cons_succ]
 refine Late.Goes.one (i:=17) (by kernel_rfl) (by simp only [List.getElem?_toArray,List.getElem?_cons_succ,List.getElem?_cons_zero];rfl) (fun K hK=>?_)
 clear hH
 go_simp
 refine hK.out _ _ ?_ (fun hH=>?_)
 ·exact fun _=>HX1.out
 clear hK K
 have hH:=hH rfl
 try simp only [Act.put,List.setIfInBounds_toArray,List.set_cons_zero,List.set_cons_succ]
 refine Late.Goes.one (i:=18) (by kernel_rfl) (by simp only [List.getElem?_toArray,List.getElem?_cons_succ,List.getElem?_cons_zero];rfl) (fun K hK=>?_)
 clear hH
 go_simp
 refine hK.out _ _ ?_ (fun hH=>?_)
 ·exact fun _=>HX1.out
 clear hK K
 have hH:=hH rfl
 try simp only [Act.put,List.setIfInBounds_toArray,List.set_cons_zero,List.set_cons_succ]
 refine Late.Goes.done (by kernel_rfl) ?_ _
 clear hH hx hne heq
 go_wp2
 go_ret
 exact ⟨rfl,HB.out⟩
theorem may_low (r:Rcd) (hr:r=named r) (h0:r.bucket < 0) (w:World):Calls Tryz.prog 28 #[rv r] w fun e w'=>e = .returned (.bool false)∧Below w.heap.size w w':=by
 have hn:=fun w=>named_any r w
 rw [← hr] at hn
 have hne:=fun w=>rec_neq r r w
 have heq:=fun w=>rec_equal r r w
 rw [decide_eq_true (rfl:r=r)] at hne heq
 simp only [Bool.not_true] at hne
 clear hr
 obtain ⟨k,b,g,q1,q2,q3,s1,s2,ri,se,ke,va,ve,ex⟩:=r
 simp only [rv,cells] at hn hne heq ⊢
 have e0:(b < 0):=by simp only at h0;omega
 have d0:decide (b < 0)=true:=decide_eq_true e0
 clear h0
 have HN:=Lib.hid hn
 clear hn
 have hx:Box (w.alloc (.cells (cells ⟨k,b,g,q1,q2,q3,s1,s2,ri,se,ke,va,ve,ex⟩) 35)) w.heap.size (cells ⟨k,b,g,q1,q2,q3,s1,s2,ri,se,ke,va,ve,ex⟩):=heap_new _ _
 simp only [cells] at hx
 go_enter Tryz.func28,Tryz.ntmps28
 go_wp2_with fail
 refine Late.region_goes (fun u=>Box u w.heap.size #[.int .i64 k,.int .i64 b,.int .u32 (g:Int),.int .i64 q1,.int .i64 q2,.int .i64 q3,.int .u64 (s1:Int),.int .u32 (s2:Int),.int .i64 ri,.int .u64 (se:Int),.string ke,.string va,.int .u64 (ve:Int),.int .u64 (ex:Int)]) (fun _=>false) (by kernel_rfl) ?_ (fun hH=>?_)
 ·exact hx
 refine Late.Goes.take (i:=0) (v:=?_) (by simp only [List.getElem?_toArray,List.getElem?_cons_succ,List.getElem?_cons_zero];rfl) (by kernel_rfl) (by kernel_rfl) (by kernel_rfl) (by kernel_rfl) (by exact fun _ _ _ h=>h) (Or.inl ⟨by rfl,?_⟩) hH ?_
 rotate_left
 ·(intro wy hSw;(try dsimp only at hSw);have c0:=Box.cell hSw 0 rfl;have c1:=Box.cell hSw 1 rfl;have c2:=Box.cell hSw 2 rfl;have c3:=Box.cell hSw 3 rfl;have c4:=Box.cell hSw 4 rfl;have c5:=Box.cell hSw 5 rfl;have c6:=Box.cell hSw 6 rfl;have c7:=Box.cell hSw 7 rfl;have c8:=Box.cell hSw 8 rfl;have c9:=Box.cell hSw 9 rfl;have c10:=Box.cell hSw 10 rfl;have c11:=Box.cell hSw 11 rfl;have c12:=Box.cell hSw 12 rfl;have c13:=Box.cell hSw 13 rfl;go_simp;try (with_reducible rfl))
 try simp only [Act.put,List.setIfInBounds_toArray,List.set_cons_zero,List.set_cons_succ]
 refine Late.Goes.take (i:=1) (v:=?_) (by simp only [List.getElem?_toArray,List.getElem?_cons_succ,List.getElem?_cons_zero];rfl) (by kernel_rfl) (by kernel_rfl) (by kernel_rfl) (by kernel_rfl) (by exact fun _ _ _ h=>h) (Or.inl ⟨by rfl,?_⟩) hH ?_
 rotate_left
 ·(intro wy hSw;(try dsimp only at hSw);have c0:=Box.cell hSw 0 rfl;have c1:=Box.cell hSw 1 rfl;have c2:=Box.cell hSw 2 rfl;have c3:=Box.cell hSw 3 rfl;have c4:=Box.cell hSw 4 rfl;have c5:=Box.cell hSw 5 rfl;have c6:=Box.cell hSw 6 rfl;have c7:=Box.cell hSw 7 rfl;have c8:=Box.cell hSw 8 rfl;have c9:=Box.cell hSw 9 rfl;have c10:=Box.cell hSw 10 rfl;have c11:=Box.cell hSw 11 rfl;have c12:=Box.cell hSw 12 rfl;have c13:=Box.cell hSw 13 rfl;go_simp;try (with_reducible rfl))
 try simp only [Act.put,List.setIfInBounds_toArray,List.set_cons_zero,List.set_cons_succ]
 refine Late.Goes.one (i:=2) (by kernel_rfl) (by simp only [List.getElem?_toArray,List.getElem?_cons_succ,List.getElem?_cons_zero];rfl) (fun K hK=>?_)
 clear hH
 go_simp
 go_at_call 58
 refine (HN.out _).mono ?_
 rintro e w1 ⟨rfl,hb⟩
 have hx1:Box w1 w.heap.size #[.int .i64 k,.int .i64 b,.int .u32 (g:Int),.int .i64 q1,.int .i64 q2,.int .i64 q3,.int .u64 (s1:Int),.int .u32 (s2:Int),.int .i64 ri,.int .u64 (se:Int),.string ke,.string va,.int .u64 (ve:Int),.int .u64 (ex:Int)]:=(hb.block w.heap.size (by simp)).trans (heap_new w _)
 have hb1:Below w.heap.size w w1:=((Below.refl _ w).alloc (Nat.le_refl _) _).drew.trans (hb.mono (by simp))
 have HB:=Lib.hid hb1
 have c0:w1.cell? ⟨w.heap.size,0,none⟩=some (.int .i64 k):=hx1.cell 0 rfl
 have c1:w1.cell? ⟨w.heap.size,1,none⟩=some (.int .i64 b):=hx1.cell 1 rfl
 have c2:w1.cell? ⟨w.heap.size,2,none⟩=some (.int .u32 (g:Int)):=hx1.cell 2 rfl
 have HX1:=Lib.hid hx1
 clear hb hb1 hx1
 refine hK.out _ _ ?_ (fun hH=>?_)
 ·exact fun _=>HX1.out
 clear hK K
 have hH:=hH rfl
 try simp only [Act.put,List.setIfInBounds_toArray,List.set_cons_zero,List.set_cons_succ]
 refine Late.Goes.one (i:=3) (by kernel_rfl) (by simp only [List.getElem?_toArray,List.getElem?_cons_succ,List.getElem?_cons_zero];rfl) (fun K hK=>?_)
 clear hH
 go_simp
 refine hK.out _ _ ?_ (fun hH=>?_)
 ·exact fun _=>HX1.out
 clear hK K
 have hH:=hH rfl
 try simp only [Act.put,List.setIfInBounds_toArray,List.set_cons_zero,List.set_cons_succ]
 refine Late.Goes.one (i:=4) (by kernel_rfl) (by simp only [List.getElem?_toArray,List.getElem?_cons_succ,List.getElem?_cons_zero];rfl) (fun K hK=>?_)
 clear hH
 go_simp
 refine hK.out _ _ ?_ (fun hH=>?_)
 ·exact fun _=>HX1.out
 clear hK K
 have hH:=hH rfl
 try simp only [Act.put,List.setIfInBounds_toArray,List.set_cons_zero,List.set_cons_succ]
 refine Late.Goes.one (i:=5) (by kernel_rfl) (by simp only [List.getElem?_toArray,List.getElem?_cons_succ,List.getElem?_cons_zero];rfl) (fun K hK=>?_)
 clear hH
 go_simp
 refine hK.out _ _ ?_ (fun hH=>?_)
 ·exact fun _=>HX1.out
 clear hK K
 have hH:=hH rfl
 try simp only [Act.put,List.setIfInBounds_toArray,List.set_cons_zero,List.set_cons_succ]
 refine Late.Goes.one (i:=6) (by kernel_rfl) (by simp only [List.getElem?_toArray,List.getElem?_cons_succ,List.getElem?_cons_zero];rfl) (fun K hK=>?_)
 clear hH
 go_simp
 refine hK.out _ _ ?_ (fun hH=>?_)
 ·exact fun _=>HX1.out
 clear hK K
 have hH:=hH rfl
 try simp only [Act.put,List.setIfInBounds_toArray,List.set_cons_zero,List.set_cons_succ]
 refine Late.Goes.one (i:=7) (by kernel_rfl) (by simp only [List.getElem?_toArray,List.getElem?_cons_succ,List.getElem?_cons_zero];rfl) (fun K hK=>?_)
 clear hH
 go_simp
 refine hK.out _ _ ?_ (fun hH=>?_)
 ·exact fun _=>HX1.out
 clear hK K
 have hH:=hH rfl
 try simp only [Act.put,List.setIfInBounds_toArray,List.set_cons_zero,List.set_cons_succ]
 refine Late.Goes.one (i:=8) (by kernel_rfl) (by simp only [List.getElem?_toArray,List.getElem?_cons_succ,List.getElem?_cons_zero];rfl) (fun K hK=>?_)
 clear hH
 go_simp
 refine hK.out _ _ ?_ (fun hH=>?_)
 ·exact fun _=>HX1.out
 clear hK K
 have hH:=hH rfl
 try simp only [Act.put,List.setIfInBounds_toArray,List.set_cons_zero,List.set_cons_succ]
 refine Late.Goes.one (i:=9) (by kernel_rfl) (by simp only [List.getElem?_toArray,List.getElem?_cons_succ,List.getElem?_cons_zero];rfl) (fun K hK=>?_)
 clear hH
 go_simp
 refine hK.out _ _ ?_ (fun hH=>?_)
 ·exact fun _=>HX1.out
 clear hK K
 have hH:=hH rfl
 try simp only [Act.put,List.setIfInBounds_toArray,List.set_cons_zero,List.set_cons_succ]
 refine Late.Goes.one (i:=10) (by kernel_rfl) (by simp only [List.getElem?_toArray,List.getElem?_cons_succ,List.getElem?_cons_zero];rfl) (fun K hK=>?_)
 clear hH
 go_simp
 refine hK.out _ _ ?_ (fun hH=>?_)
 ·exact fun _=>HX1.out
 clear hK K
 have hH:=hH rfl
 try simp only [Act.put,List.setIfInBounds_toArray,List.set_cons_zero,List.set_cons_succ]
 refine Late.Goes.one (i:=11) (by kernel_rfl) (by simp only [List.getElem?_toArray,List.getElem?_cons_succ,List.getElem?_cons_zero];rfl) (fun K hK=>?_)
 clear hH
 go_simp
 refine hK.out _ _ ?_ (fun hH=>?_)
 ·exact fun _=>HX1.out
 clear hK K
 have hH:=hH rfl
 try simp only [Act.put,List.setIfInBounds_toArray,List.set_cons_zero,List.set_cons_succ]
 refine Late.Goes.one (i:=12) (by kernel_rfl) (by simp only [List.getElem?_toArray,List.getElem?_cons_succ,List.getElem?_cons_zero];rfl) (fun K hK=>?_)
 clear hH
 go_simp
 refine hK.out _ _ ?_ (fun hH=>?_)
 ·exact fun _=>HX1.out
 clear hK K
 have hH:=hH rfl
 try simp only [Act.put,List.setIfInBounds_toArray,List.set_cons_zero,List.set_cons_succ]
 refine Late.Goes.one (i:=13) (by kernel_rfl) (by simp only [List.getElem?_toArray,List.getElem?_cons_succ,List.getElem?_cons_zero];rfl) (fun K hK=>?_)
 clear hH
 go_simp
 refine hK.out _ _ ?_ (fun hH=>?_)
 ·exact fun _=>HX1.out
 clear hK K
 have hH:=hH rfl
 try simp only [Act.put,List.setIfInBounds_toArray,List.set_cons_zero,List.set_cons_succ]
 refine Late.Goes.one (i:=14) (by kernel_rfl) (by simp only [List.getElem?_toArray,List.getElem?_cons_succ,List.getElem?_cons_zero];rfl) (fun K hK=>?_)
 clear hH
 go_simp
 refine hK.out _ _ ?_ (fun hH=>?_)
 ·exact fun _=>HX1.out
 clear hK K
 have hH:=hH rfl
 try simp only [Act.put,List.setIfInBounds_toArray,List.set_cons_zero,List.set_cons_succ]
 refine Late.Goes.one (i:=15) (by kernel_rfl) (by simp only [List.getElem?_toArray,List.getElem?_cons_succ,List.getElem?_cons_zero];rfl) (fun K hK=>?_)
 clear hH
 go_simp
 refine hK.out _ _ ?_ (fun hH=>?_)
 ·exact fun _=>HX1.out
 clear hK K
 have hH:=hH rfl
 try simp only [Act.put,List.setIfInBounds_toArray,List.set_cons_zero,List.set_cons_succ]
 refine Late.Goes.one (i:=16) (by kernel_rfl) (by simp only [List.getElem?_toArray,List.getElem?_cons_succ,List.getElem?_cons_zero];rfl) (fun K hK=>?_)
 clear hH
 go_simp
 refine hK.out _ _ ?_ (fun hH=>?_)
 ·exact fun _=>HX1.out
 clear hK K
 have hH:=hH rfl
 try simp only [Act.put,List.setIfInBounds_toArray,List.set_cons_zero,List.set_cons_succ]
 refine Late.Goes.one (i:=17) (by kernel_rfl) (by simp only [List.getElem?_toArray,List.getElem?_cons_succ,List.getElem?_cons_zero];rfl) (fun K hK=>?_)
 clear hH
 go_simp
 refine hK.out _ _ ?_ (fun hH=>?_)
 ·exact fun _=>HX1.out
 clear hK K
 have hH:=hH rfl
 try simp only [Act.put,List.setIfInBounds_toArray,List.set_cons_zero,List.set_cons_succ]
 refine Late.Goes.one (i:=18) (by kernel_rfl) (by simp only [List.getElem?_toArray,List.getElem?_cons_succ,List.getElem?_cons_zero];rfl) (fun K hK=>?_)
 clear hH
 go_simp
 refine hK.out _ _ ?_ (fun hH=>?_)
 ·exact fun _=>HX1.out
 clear hK K
 have hH:=hH rfl
 try simp only [Act.put,List.setIfInBounds_toArray,List.set_cons_zero,List.set_cons_succ]
 refine Late.Goes.done (by kernel_rfl) ?_ _
 clear hH hx hne heq
 go_wp2
 go_ret
 exact ⟨rfl,HB.out⟩
end Go.Proofs.YtgjofinbdigmcaaGreat.Rec
end

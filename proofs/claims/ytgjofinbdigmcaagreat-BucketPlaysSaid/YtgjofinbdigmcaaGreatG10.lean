/- Contracts of the library's Push and Pop over the program's heap, and of the program's own calls. The heap as what a rising list of items tells: contracts of the program's calls over it. Contract of the program's Due. Tokens by rising serials, in plain lists: looked up, put, revoked. Errors of api's own type: how they lie in an error, and what == says of two. -/
import Derived.Test.YtgjofinbdigmcaaGreatG09
import Derived.Test.YtgjofinbdigmcaaGreatG01
import Derived.Test.YtgjofinbdigmcaaGreatProg
import Derived.WalkKit
import Derived.ProofKit
import Derived.Below
import Derived.Outline
import Derived.WalkSpells
import Derived.WalkLawsBesides
import Derived.LoopTactic
import Derived.Lib.Hide
set_option linter.unusedSimpArgs false
set_option linter.unusedVariables false
set_option maxHeartbeats 1000000
set_option maxRecDepth 100000
section
namespace Go.Proofs.YtgjofinbdigmcaaGreat.Exp
open Go.Proofs.YtgjofinbdigmcaaGreat.Mem
open Go.ChangeShapes Go.WideShapes Go.ChangeAt Go.RowKit
theorem results_row_tmp {P:Program} {fn:Func} {p q:Tmp} {ty:TypeId} (h:fn.results = #[.cell p ty,.tmp q]) (tmps:Array Value) (w:World) (g:Nat) (t:TypeId) (cs:Array Value) (fr:Nat × Nat) (d:TypeDesc)
  (hp:tmps.getD p undef = .pointer (some ⟨g,0,none⟩)) (hg:w.heap[g]?=some (.cells cs t fr))
  (hu:P.underlying ty=some d) (hd:(match d with | .struct _ | .array _ _=>true|_=>false)=true) (hi:(P.info? ty).map (·.size)=some cs.size) :
  (results fn tmps).run P w = .ok (.tuple #[.agg cs,tmps.getD q undef]) w:=by
 have hp':tmps[p]?.getD undef = .pointer (some ⟨g,0,none⟩):=by simpa using hp
 simp [results,h,hp',asAddr,run_loadVar_row w g t ty cs fr d hg hu hd hi]
section
variable {w:World} {B p:Nat} {v:Value} {l:List It}
theorem lpush_any (h:HAt w B p v l) (hh:Hp l) (x:It) (hl:l.length+1≤1000) :
  Calls Tryz.prog 78 #[.iface 132 (.pointer (some ⟨p,0,none⟩)),.iface 68 (.agg #[.int .u64 (x.time:Int),.string x.key])] w fun e w'=>e = .returned (.tuple #[])∧∃ v' l',HAt w' B p v' l'∧Hp l'∧l'.Perm (x :: l)∧But (Foot p v) w w'∧Next w v v':=by
 have mP:=fun w x=>m_push w x
 simp at mP
 have HC:=Lib.hid (ppush_any h x hl)
 have HH:=Lib.hid hh
 clear h hh
 go_enter Tryz.func78,Tryz.ntmps78
 go_wp2_with fail
 refine HC.out.mono ?_
 rintro e w1 ⟨rfl,v1,hA1,hB1,hn1⟩
 have mL:=hA1.m1
 simp at mL
 have HA1:=Lib.hid hA1
 have HB1:=Lib.hid hB1
 have HN1:=Lib.hid hn1
 have HL:=Lib.hid hA1.len_
 have hln:(l++[x]).length=l.length+1:=by simp
 rw [hln] at HL
 have HU:=Lib.hid (hup_any hA1 (j:=l.length) (by omega))
 obtain ⟨n,hn⟩:∃ n,n=l.length:=⟨_,rfl⟩
 have HEND:=Lib.hid (up_all (f:=l.length+1) (UpAt.last HH.out x) (by omega) (by omega))
 have hz:((l.length+1:Nat):Int)=(n:Int)+1:=by omega
 rw [hz] at HL
 rw [← hn] at HU hl HEND
 clear hA1 hB1 hn1 mP HC hln hn hz
 go_wp2_with fail
 refine HL.out.mono ?_
 rintro e w2 ⟨rfl,rfl⟩
 clear HL mL
 go_wp2_with fail
 refine HU.out.mono ?_
 rintro e w2 ⟨rfl,hA2,hB2⟩
 have HA2:=Lib.hid hA2
 have HB2:=Lib.hid (foot_trans HB1.out HN1.out hB2)
 clear hA2 hB2 HU
 go_wp2_with fail
 go_end0
 refine ⟨rfl,v1,_,HA2.out,HEND.out.1,HEND.out.2.trans ?_,HB2.out,HN1.out⟩
 exact List.perm_append_singleton x l
theorem swap_last {l:List It} {n:Nat} (hn:l.length=n+1):swap l 0 n=(l.take n).set 0 (look l n)++[look l 0]:=by
 apply List.ext_getElem?
 intro i
 have hs:(swap l 0 n).length=n+1:=by rw [swap_length,hn]
 have hf:((l.take n).set 0 (look l n)).length=n:=by simp;omega
 by_cases hi:i < n+1
 ·have e1:(swap l 0 n)[i]?=some (look (swap l 0 n) i):=look_some (by omega)
  have e2:((l.take n).set 0 (look l n)++[look l 0])[i]?=some (look ((l.take n).set 0 (look l n)++[look l 0]) i):=look_some (by rw [List.length_append,hf];simpa using hi)
  rw [e1,e2,look_swap (by omega) (by omega)]
  by_cases h1:i=n
  ·rw [if_pos h1]
   have hq:∀ (A:List It) (y:It),A.length=n→look (A++[y]) n=y:=fun A y hA=>by subst hA;simp [look,List.getD]
   rw [h1,hq _ _ hf]
  ·rw [if_neg h1,look_app (by rw [hf];omega),look_set (by rw [List.length_take,hn];omega)]
   by_cases h0:i=0
   ·rw [if_pos h0,if_pos h0]
   ·rw [if_neg h0,if_neg h0]
    simp [look,List.getD,List.getElem?_take,show i < n by omega]
 ·rw [List.getElem?_eq_none (by omega),List.getElem?_eq_none (by rw [List.length_append,hf];simp;omega)]
theorem lpop_any (h:HAt w B p v l) (hh:Hp l) (hl:0 < l.length) :
  Calls Tryz.prog 76 #[.iface 132 (.pointer (some ⟨p,0,none⟩))] w fun e w'=>e = .returned (.iface 68 (.agg #[.int .u64 ((look l 0).time:Int),.string (look l 0).key]))∧∃ v' l',HAt w' B p v' l'∧Hp l'∧l.Perm (look l 0 :: l')∧But (Foot p v) w w'∧v'.ownBlock=v.ownBlock:=by
 have mP:=fun w x=>m_pop w x
 simp at mP
 obtain ⟨n,hn⟩:∃ n,l.length=n+1:=⟨l.length - 1,by omega⟩
 have mL:=h.m1
 have mS:=h.m3
 simp at mL mS
 have HL:=Lib.hid h.len_
 have HSW:=Lib.hid (h.swap_ (i:=0) (j:=n) (by omega) (by omega))
 have hz:((l.length:Nat):Int)=(n:Int)+1:=by omega
 rw [hz] at HL
 rw [swap_last hn] at HSW
 obtain ⟨F,hF⟩:∃ F,F=(l.take n).set 0 (look l n):=⟨_,rfl⟩
 have hFl:F.length=n:=by rw [hF];simp;omega
 have hpm:=swap_perm (l:=l) (i:=0) (j:=n) (by omega) (by omega)
 rw [swap_last hn,← hF] at hpm
 rw [← hF] at HSW
 have hd:Hp (down (n+1) F 0)∧(down (n+1) F 0).Perm F:=by
  refine down_all ?_ (by omega)
  rw [hF]
  exact DownAt.first (hp_take hh n) _
 have HD:=Lib.hid hd
 have HPM:=Lib.hid hpm
 obtain ⟨x,hx⟩:∃ x,x=look l 0:=⟨_,rfl⟩
 rw [← hx] at HSW HPM ⊢
 have HFL:=Lib.hid hFl
 have hf:=h.few
 rw [hn] at hf
 clear h hh hl hz hF hFl hpm hx hd
 go_enter Tryz.func76,Tryz.ntmps76
 go_wp2_with fail
 refine HL.out.mono ?_
 rintro e w1 ⟨rfl,rfl⟩
 clear HL mL
 go_wp2_with fail
 refine HSW.out.mono ?_
 rintro e w2 ⟨rfl,hA,hB⟩
 have HDN:=Lib.hid (hdown_any hA)
 rw [HFL.out] at HDN
 have HB:=Lib.hid hB
 clear hA hB HSW mS
 go_wp2_with fail
 refine HDN.out.mono ?_
 rintro e w3 ⟨⟨b,rfl⟩,hA,hB⟩
 have HPP:=Lib.hid (ppop_any hA)
 have HB3:=Lib.hid (HB.out.trans' hB)
 clear hA hB HDN HB
 go_wp2_with fail
 refine HPP.out.mono ?_
 rintro e w4 ⟨rfl,v4,hA,hB,ho⟩
 have HEND:=Lib.hid (And.intro hA (And.intro (HB3.out.trans' hB) ho))
 clear hA hB ho HPP
 go_wp2_with fail
 go_ret
 refine ⟨rfl,v4,_,HEND.out.1,HD.out.1,?_,HEND.out.2.1,HEND.out.2.2⟩
 refine HPM.out.symm.trans ((List.perm_append_singleton x F).trans ?_)
 exact List.Perm.cons x HD.out.2.symm
theorem new_any (w:World):Calls Tryz.prog 22 #[] w fun e w'=>e = .returned (.pointer (some ⟨w.heap.size,0,none⟩))∧HAt w' w.heap.size w.heap.size (.slice none 0 0) []∧But (fun _=>False) w w':=by
 have HB:=Lib.hid (Blk.new w 97 #[.slice none 0 0])
 have HO:=Lib.hid (show But (fun _=>False) w (w.alloc (.cells #[.slice none 0 0] 97)) from (But.refl _ w).alloc _)
 go_enter Tryz.func22,Tryz.ntmps22
 go_wp2_with fail
 go_ret
 exact ⟨rfl,⟨HB.out,⟨rfl,.inl ⟨rfl,rfl⟩⟩,Nat.le_refl _,by simp⟩,HO.out⟩
theorem len_any (h:HAt w B p v l):Calls Tryz.prog 55 #[.pointer (some ⟨p,0,none⟩)] w fun e w'=>e = .returned (.int .i64 (l.length:Int))∧w'=w:=by
 obtain ⟨a,c,hv⟩:=h.shape
 have k0:w.cell? ⟨p,0,none⟩=some v:=h.blk.cell 0
 rw [hv] at k0
 clear h hv
 generalize l.length=n at *
 go_enter Tryz.func55,Tryz.ntmps55
 go_wp2_with fail
 go_ret
 exact ⟨rfl,rfl⟩
theorem boxed (w:World) (x:It):(w.alloc (.cells #[.int .u64 (x.time:Int),.string x.key] 68)).cell? ⟨w.heap.size,0,none⟩=some (.int .u64 (x.time:Int))∧(w.alloc (.cells #[.int .u64 (x.time:Int),.string x.key] 68)).cell? ⟨w.heap.size,1,none⟩=some (.string x.key) :=
 ⟨(Blk.new w _ _).cell 0,(Blk.new w _ _).cell 1⟩
theorem mk_item (x:Value) (w:World):(Instr.makeInterface 68 x).run Tryz.prog w = .ok (.iface 68 x) w:=run_makeInterface w 68 x (by kernel_rfl)
theorem mk_places (x:Value) (w:World):(Instr.makeInterface 132 x).run Tryz.prog w = .ok (.iface 132 x) w:=run_makeInterface w 132 x (by kernel_rfl)
theorem push_any (h:HAt w B p v l) (hh:Hp l) (x:It) (hl:l.length+1≤1000) :
  Calls Tryz.prog 57 #[.pointer (some ⟨p,0,none⟩),.agg #[.int .u64 (x.time:Int),.string x.key]] w fun e w'=>e = .returned (.tuple #[])∧∃ v' l',HAt w' B p v' l'∧Hp l'∧l'.Perm (x :: l)∧But (Foot p v) w w'∧Next w v v':=by
 have mi:=mk_item
 have mp:=mk_places
 have hb1:But (fun _=>False) w (w.alloc (.cells #[.int .u64 (x.time:Int),.string x.key] 68)).drew:=((But.refl _ w).alloc _).drew
 have HX:=Lib.hid (boxed w x)
 have HC:=Lib.hid (lpush_any (h.new hb1) hh x hl)
 have HB1:=Lib.hid hb1
 clear h hh hb1
 go_enter Tryz.func57,Tryz.ntmps57
 go_wp2_with fail
 refine Late.region_goes (fun V=>V=(w.alloc (.cells #[.int .u64 (x.time:Int),.string x.key] 68)).drew) (fun i=>i == 6) (by kernel_rfl) ?_ (fun hH=>?_)
 ·rfl
 refine Late.Goes.takeT (i:=0) (v:=?_) (by simp only [List.getElem?_toArray,List.getElem?_cons_succ,List.getElem?_cons_zero];rfl) (by kernel_rfl) (by kernel_rfl) (by kernel_rfl) (by kernel_rfl) (by kernel_rfl) (by exact fun _ _ _ h=>h) (Or.inl ⟨by rfl,?_⟩) hH ?_
 rotate_left
 ·(intro wy hSw;(try dsimp only at hSw);subst hSw;have x0:(w.alloc (.cells #[.int .u64 (x.time:Int),.string x.key] 68)).drew.cell? ⟨w.heap.size,0,none⟩=some (.int .u64 (x.time:Int)):=HX.out.1;have x1:(w.alloc (.cells #[.int .u64 (x.time:Int),.string x.key] 68)).drew.cell? ⟨w.heap.size,1,none⟩=some (.string x.key):=HX.out.2;go_simp;try (with_reducible rfl))
 try simp only [Act.put,List.setIfInBounds_toArray,List.set_cons_zero,List.set_cons_succ]
 refine Late.Goes.takeT (i:=1) (v:=?_) (by simp only [List.getElem?_toArray,List.getElem?_cons_succ,List.getElem?_cons_zero];rfl) (by kernel_rfl) (by kernel_rfl) (by kernel_rfl) (by kernel_rfl) (by kernel_rfl) (by exact fun _ _ _ h=>h) (Or.inl ⟨by rfl,?_⟩) hH ?_
 rotate_left
 ·(intro wy hSw;(try dsimp only at hSw);subst hSw;have x0:(w.alloc (.cells #[.int .u64 (x.time:Int),.string x.key] 68)).drew.cell? ⟨w.heap.size,0,none⟩=some (.int .u64 (x.time:Int)):=HX.out.1;have x1:(w.alloc (.cells #[.int .u64 (x.time:Int),.string x.key] 68)).drew.cell? ⟨w.heap.size,1,none⟩=some (.string x.key):=HX.out.2;go_simp;try (with_reducible rfl))
 try simp only [Act.put,List.setIfInBounds_toArray,List.set_cons_zero,List.set_cons_succ]
 refine Late.Goes.takeT (i:=2) (v:=?_) (by simp only [List.getElem?_toArray,List.getElem?_cons_succ,List.getElem?_cons_zero];rfl) (by kernel_rfl) (by kernel_rfl) (by kernel_rfl) (by kernel_rfl) (by kernel_rfl) (by exact fun _ _ _ h=>h) (Or.inl ⟨by rfl,?_⟩) hH ?_
 rotate_left
 ·(intro wy hSw;(try dsimp only at hSw);subst hSw;have x0:(w.alloc (.cells #[.int .u64 (x.time:Int),.string x.key] 68)).drew.cell? ⟨w.heap.size,0,none⟩=some (.int .u64 (x.time:Int)):=HX.out.1;have x1:(w.alloc (.cells #[.int .u64 (x.time:Int),.string x.key] 68)).drew.cell? ⟨w.heap.size,1,none⟩=some (.string x.key):=HX.out.2;go_simp;try (with_reducible rfl))
 try simp only [Act.put,List.setIfInBounds_toArray,List.set_cons_zero,List.set_cons_succ]
 refine Late.Goes.takeT (i:=3) (v:=?_) (by simp only [List.getElem?_toArray,List.getElem?_cons_succ,List.getElem?_cons_zero];rfl) (by kernel_rfl) (by kernel_rfl) (by kernel_rfl) (by kernel_rfl) (by kernel_rfl) (by exact fun _ _ _ h=>h) (Or.inl ⟨by rfl,?_⟩) hH ?_
 rotate_left
 ·(intro wy hSw;(try dsimp only at hSw);subst hSw;have x0:(w.alloc (.cells #[.int .u64 (x.time:Int),.string x.key] 68)).drew.cell? ⟨w.heap.size,0,none⟩=some (.int .u64 (x.time:Int)):=HX.out.1;have x1:(w.alloc (.cells #[.int .u64 (x.time:Int),.string x.key] 68)).drew.cell? ⟨w.heap.size,1,none⟩=some (.string x.key):=HX.out.2;go_simp;try (with_reducible rfl))
 try simp only [Act.put,List.setIfInBounds_toArray,List.set_cons_zero,List.set_cons_succ]
 refine Late.Goes.takeT (i:=4) (v:=?_) (by simp only [List.getElem?_toArray,List.getElem?_cons_succ,List.getElem?_cons_zero];rfl) (by kernel_rfl) (by kernel_rfl) (by kernel_rfl) (by kernel_rfl) (by kernel_rfl) (by exact fun _ _ _ h=>h) (Or.inl ⟨by rfl,?_⟩) hH ?_
 rotate_left
 ·(intro wy hSw;(try dsimp only at hSw);subst hSw;have x0:(w.alloc (.cells #[.int .u64 (x.time:Int),.string x.key] 68)).drew.cell? ⟨w.heap.size,0,none⟩=some (.int .u64 (x.time:Int)):=HX.out.1;have x1:(w.alloc (.cells #[.int .u64 (x.time:Int),.string x.key] 68)).drew.cell? ⟨w.heap.size,1,none⟩=some (.string x.key):=HX.out.2;go_simp;try (with_reducible rfl))
 try simp only [Act.put,List.setIfInBounds_toArray,List.set_cons_zero,List.set_cons_succ]
 refine Late.Goes.takeT (i:=5) (v:=?_) (by simp only [List.getElem?_toArray,List.getElem?_cons_succ,List.getElem?_cons_zero];rfl) (by kernel_rfl) (by kernel_rfl) (by kernel_rfl) (by kernel_rfl) (by kernel_rfl) (by exact fun _ _ _ h=>h) (Or.inl ⟨by rfl,?_⟩) hH ?_
 rotate_left
 ·(intro wy hSw;(try dsimp only at hSw);subst hSw;have x0:(w.alloc (.cells #[.int .u64 (x.time:Int),.string x.key] 68)).drew.cell? ⟨w.heap.size,0,none⟩=some (.int .u64 (x.time:Int)):=HX.out.1;have x1:(w.alloc (.cells #[.int .u64 (x.time:Int),.string x.key] 68)).drew.cell? ⟨w.heap.size,1,none⟩=some (.string x.key):=HX.out.2;go_simp;try (with_reducible rfl))
 try simp only [Act.put,List.setIfInBounds_toArray,List.set_cons_zero,List.set_cons_succ]
 refine Late.Goes.one (i:=6) (by kernel_rfl) (by simp only [List.getElem?_toArray,List.getElem?_cons_succ,List.getElem?_cons_zero];rfl) (fun K hK=>?_)
 clear hH
 go_simp
 go_at_call 78
 refine HC.out.mono ?_
 rintro e w2 ⟨rfl,v2,l2,hA,hH,hP,hB,hN⟩
 have HEND:=Lib.hid (show ∃ v' l',HAt w2 B p v' l'∧Hp l'∧l'.Perm (x :: l)∧But (Foot p v) w w2∧Next w v v' from by
  refine ⟨v2,l2,hA,hH,hP,(HB1.out.mono (fun _ _ h=>h.elim)).trans' hB,?_⟩
  rcases hN with hN|hN
  ·exact .inl hN
  ·exact .inr (fun k hk=>Nat.le_trans HB1.out.size (hN k hk)))
 clear hA hH hP hB hN HC HB1 HX
 refine hK.out _ _ ?_ (fun _=>?_)
 ·exact fun h=>by cases h
 clear hK K
 try simp only [Act.put,List.setIfInBounds_toArray,List.set_cons_zero,List.set_cons_succ]
 refine Late.Goes.done (by kernel_rfl) ?_ _
 go_wp2
 go_end0
 exact ⟨rfl,HEND.out⟩
theorem pop_yes (h:HAt w B p v l) (hh:Hp l) (hl:0 < l.length) :
  Calls Tryz.prog 52 #[.pointer (some ⟨p,0,none⟩)] w fun e w'=>e = .returned (.tuple #[.agg #[.int .u64 ((look l 0).time:Int),.string (look l 0).key],.bool true])∧∃ v' l',HAt w' B p v' l'∧Hp l'∧l.Perm (look l 0 :: l')∧But (Foot p v) w w'∧v'.ownBlock=v.ownBlock:=by
 have mp:=mk_places
 have ta:=assert_item
 obtain ⟨a,c,hv⟩:=h.shape
 have hb1:But (fun _=>False) w (w.alloc (.cells #[.int .u64 0,.string ⟨#[]⟩] 68)):=(But.refl _ w).alloc _
 have hX:=Blk.new w 68 #[.int .u64 0,.string ⟨#[]⟩]
 have hA:=h.new hb1
 have hC:=lpop_any hA hh hl
 obtain ⟨x,hx⟩:∃ x,x=look l 0:=⟨_,rfl⟩
 rw [← hx] at hC ⊢
 have HC:=Lib.hid hC
 have k0:(w.alloc (.cells #[.int .u64 0,.string ⟨#[]⟩] 68)).cell? ⟨p,0,none⟩=some v:=hA.blk.cell 0
 rw [hv] at k0
 have HLT:=Lib.hid h.lt
 have HX:=Lib.hid hX
 have HB1:=Lib.hid hb1
 have hln:((l.length:Int) == 0)=false:=beq_eq_false_iff_ne.2 (by omega)
 have hs1:w.heap.size < (w.alloc (.cells #[.int .u64 0,.string ⟨#[]⟩] 68)).heap.size:=hX.lt
 have HS1:=Lib.hid hs1
 obtain ⟨n,hn⟩:∃ n,n=l.length:=⟨_,rfl⟩
 rw [← hn] at k0 hln
 have HV:=Lib.hid hv
 clear h hh hl hb1 hX hA hv hn hs1 hC hx
 go_enter Tryz.func52,Tryz.ntmps52
 go_wp2_with fail
 refine HC.out.mono ?_
 rintro e w2 ⟨rfl,v2,l2,hA,hH,hP,hB,hN⟩
 have hnf:¬ Foot p v w.heap.size:=by
  have hlt:=HLT.out
  rintro (e|e)
  ·omega
  ·have:=(hlt.2 _ e.symm).2.1;omega
 have hX2:=HX.out.but hB hnf
 have hX2':Blk w2 w.heap.size 68 ([]++icells nil++[]).toArray:=hX2
 have HT:=Lib.hid (show w2.there w.heap.size 0 2 from fun j hj=>⟨by
  rw [hX2.cell]
  rcases j with _|_|j
  ·rfl
  ·rfl
  ·omega,hX2.frozen _⟩)
 have hX3:Blk (w2.setCells w.heap.size 0 (icells x)) w.heap.size 68 ([]++icells x++[]).toArray:=blk_setCells hX2' rfl
 have hX4:Blk (w2.setCells w.heap.size 0 (icells x)) w.heap.size 68 #[.int .u64 (x.time:Int),.string x.key]:=hX3
 have HX4:=Lib.hid hX4
 have hb3:But (fun k=>k=w.heap.size) w2 (w2.setCells w.heap.size 0 (icells x)):=but_setCells _ _ _ _
 have hA3:=hA.but hb3 (fun e=>by have:=HLT.out.1;omega) (fun k hk e=>by
  rw [hN] at hk
  have:=(HLT.out.2 k hk).2.1
  omega)
 have HEND:=Lib.hid (show ∃ v' l',HAt (w2.setCells w.heap.size 0 (icells x)) B p v' l'∧Hp l'∧l.Perm (x :: l')∧But (Foot p v) w (w2.setCells w.heap.size 0 (icells x))∧v'.ownBlock=v.ownBlock from
  ⟨v2,l2,hA3,hH,hP,((HB1.out.mono (fun _ _ h=>h.elim)).trans' hB).trans hb3 (fun i hi e=>by omega),hN⟩)
 clear hA hH hP hB hN hX2 hX2' hX3 hX4 hb3 hA3 HC HX HB1 k0 hnf
 go_wp2_with (refine wpList_store_mid rfl 68 _ _ rfl w.heap.size 0 (icells x).toArray rfl rfl (by simpa [icells_length] using HT.out) (by simp only [List.size_toArray,icells_length];exact item_size) (all_oneCell_toArray (icells_one x)) ?_
              change wpList _ _ _ _ _ (w2.setCells w.heap.size 0 (icells x)))
 refine bodyPost_ret (results_row_tmp rfl _ _ w.heap.size 68 #[.int .u64 (x.time:Int),.string x.key] (0,0) _ rfl HX4.out Tryz.underlying68 rfl item_size) rfl ?_
 exact ⟨rfl,HEND.out⟩
end
end Go.Proofs.YtgjofinbdigmcaaGreat.Exp
end
section
namespace Go.Proofs.YtgjofinbdigmcaaGreat.Exp
open Go.Proofs.YtgjofinbdigmcaaGreat.Mem
open Go.ChangeShapes Go.WideShapes Go.ChangeAt Go.RowKit
def HM (w:World) (B p:Nat) (v:Value) (m:List It):Prop:=∃ l,HAt w B p v l∧Hp l∧l.Perm m∧Ris m
section
variable {w w':World} {B p:Nat} {v:Value} {l m:List It}
theorem HM.but {F:Nat→Prop} (h:HM w B p v m) (hb:But F w w') (h1:¬ F p) (h2:∀ k,v.ownBlock=some k→¬ F k):HM w' B p v m:=by
 obtain ⟨l,h,r⟩:=h
 exact ⟨l,h.but hb h1 h2,r⟩
theorem HM.new (h:HM w B p v m) (hb:But (fun _=>False) w w'):HM w' B p v m:=h.but hb (fun h=>h) (fun _ _ h=>h)
theorem HM.lt (h:HM w B p v m):p < w.heap.size∧∀ k,v.ownBlock=some k→B≤k∧k < w.heap.size∧k≠p:=by
 obtain ⟨l,h,r⟩:=h
 exact h.lt
theorem HM.few (h:HM w B p v m):m.length≤1000:=by
 obtain ⟨l,h,_,hp,_⟩:=h
 rw [← hp.length_eq]
 exact h.few
theorem hnew_any (w:World):Calls Tryz.prog 22 #[] w fun e w'=>e = .returned (.pointer (some ⟨w.heap.size,0,none⟩))∧HM w' w.heap.size w.heap.size (.slice none 0 0) []∧But (fun _=>False) w w':=by
 refine (new_any w).mono ?_
 rintro e w' ⟨rfl,h,hb⟩
 exact ⟨rfl,⟨[],h,hp_nil,List.Perm.refl _,List.Pairwise.nil⟩,hb⟩
theorem hlen_any (h:HM w B p v m):Calls Tryz.prog 55 #[.pointer (some ⟨p,0,none⟩)] w fun e w'=>e = .returned (.int .i64 (m.length:Int))∧w'=w:=by
 obtain ⟨l,h,_,hp,_⟩:=h
 rw [← hp.length_eq]
 exact len_any h
theorem hpush_any' (h:HM w B p v m) (x:It) (hl:m.length+1≤1000) :
  Calls Tryz.prog 57 #[.pointer (some ⟨p,0,none⟩),.agg #[.int .u64 (x.time:Int),.string x.key]] w fun e w'=>e = .returned (.tuple #[])∧∃ v',HM w' B p v' (ins m x)∧But (Foot p v) w w'∧Next w v v':=by
 obtain ⟨l,h,hh,hp,hr⟩:=h
 refine (push_any h hh x (by rw [hp.length_eq];exact hl)).mono ?_
 rintro e w' ⟨rfl,v',l',hA,hH,hP,hB,hN⟩
 exact ⟨rfl,v',⟨l',hA,hH,hP.trans ((List.Perm.cons x hp).trans (ins_perm m x).symm),ins_ris hr x⟩,hB,hN⟩
theorem hpop_yes {y:It} (h:HM w B p v (y :: m)) :
  Calls Tryz.prog 52 #[.pointer (some ⟨p,0,none⟩)] w fun e w'=>e = .returned (.tuple #[.agg #[.int .u64 (y.time:Int),.string y.key],.bool true])∧∃ v',HM w' B p v' m∧But (Foot p v) w w'∧v'.ownBlock=v.ownBlock:=by
 obtain ⟨l,h,hh,hp,hr⟩:=h
 have hl:0 < l.length:=by rw [hp.length_eq];simp
 have hy:look l 0=y:=by
  obtain ⟨a,t,rfl⟩:∃ a t,l=a :: t:=List.exists_cons_of_length_pos hl
  exact least_one hh hr hp
 refine (pop_yes h hh hl).mono ?_
 rintro e w' ⟨rfl,v',l',hA,hH,hP,hB,hN⟩
 rw [hy] at hP ⊢
 exact ⟨rfl,v',⟨l',hA,hH,((hP.symm.trans hp)).cons_inv,(List.pairwise_cons.1 hr).2⟩,hB,hN⟩
def Shows (w:World) (t:TypeId) (a:Option Addr) (l:List It):Prop:=l=[]∨∃ g off,a=some ⟨g,off,none⟩∧(∃ cs,Blk w g t cs)∧∀ i,i < l.length→w.rangeAt g (off+i * 2) (icells (look l i))
theorem Shows.cells {t:TypeId} {a:Option Addr} (h:Shows w t a l) {i:Nat} (hi:i < l.length):∃ g off,a=some ⟨g,off,none⟩∧g < w.heap.size∧w.rangeAt g (off+i * 2) (icells (look l i)):=by
 rcases h with rfl|⟨g,off,h1,⟨cs,h2⟩,h3⟩
 ·simp at hi
 ·exact ⟨g,off,h1,h2.lt,h3 i hi⟩
theorem Shows.but {t:TypeId} {a:Option Addr} {F:Nat→Prop} (h:Shows w t a l) (hb:But F w w') (hF:∀ g off,a=some ⟨g,off,none⟩→¬ F g):Shows w' t a l:=by
 rcases h with h|⟨g,off,h1,⟨cs,h2⟩,h3⟩
 ·exact .inl h
 ·refine .inr ⟨g,off,h1,⟨cs,h2.but hb (hF g off h1)⟩,fun i hi j u hu=>?_⟩
  exact (hb.cell (p:=⟨g,off+i * 2+j,none⟩) h2.lt (hF g off h1)).trans (h3 i hi j u hu)
end
end Go.Proofs.YtgjofinbdigmcaaGreat.Exp
end
section
namespace Go.Proofs.YtgjofinbdigmcaaGreat.Exp
open Go.Proofs.YtgjofinbdigmcaaGreat.Mem
open Go.ChangeShapes Go.WideShapes Go.ChangeAt Go.RowKit
section
variable {w w':World} {B p:Nat} {v:Value} {l m:List It}
theorem HM.first {y:It} {t:List It} (h:HM w B p v (y :: t)):∃ g n c,v = .slice (some ⟨g,0,none⟩) n c∧0 < n∧n≤1000∧w.cell? ⟨p,0,none⟩=some v∧w.cell? ⟨g,0,none⟩=some (.int .u64 (y.time:Int))∧w.cell? ⟨g,1,none⟩=some (.string y.key):=by
 obtain ⟨l,h,hh,hp,hr⟩:=h
 have hl:0 < l.length:=by rw [hp.length_eq];simp
 have hy:look l 0=y:=by
  obtain ⟨a,t,rfl⟩:∃ a t,l=a :: t:=List.exists_cons_of_length_pos hl
  exact least_one hh hr hp
 obtain ⟨g,cap,rest,h1,h2,h3,h4,h5,h6⟩:=h.row hl
 have hc:=h6.cells hl
 rw [hy] at hc
 exact ⟨g,_,cap,h1,hl,h.few,h.blk.cell 0,by simpa using hc.1,by simpa using hc.2⟩
theorem HM.none (h:HM w B p v []):∃ a c,w.cell? ⟨p,0,none⟩=some (.slice a 0 c):=by
 obtain ⟨l,h,hh,hp,hr⟩:=h
 have:l=[]:=List.eq_nil_of_length_eq_zero (by rw [hp.length_eq];rfl)
 subst this
 obtain ⟨a,c,hv⟩:=h.shape
 refine ⟨a,c,?_⟩
 have:=h.blk.cell 0
 rw [hv] at this
 exact this
def lenOf:Value→Nat
 | .slice _ n _=>n
 | _=>0
structure DueAt (w:World) (B p:Nat) (v:Value) (m:List It) (now:Nat) (x:Value) (j:Nat) (v':Value) (wr:World):Prop where
 row:wr.ownsRow w.heap.size 68 2 x j (rowI (m.take j))
 le:j≤m.length
 gone:∀ i,i < j→(look m i).time≤now
 heap:HM wr B p v' (m.drop j)
 but:But (Foot p v) w wr
 own:v'.ownBlock=v.ownBlock
theorem look_drop {m:List It} {j:Nat} {y:It} {t:List It} (h:m.drop j=y :: t):look m j=y∧j < m.length∧m.drop (j+1)=t∧m.take (j+1)=m.take j++[y]:=by
 have hl:j < m.length:=by
  rcases Nat.lt_or_ge j m.length with h1|h1
  ·exact h1
  ·rw [List.drop_eq_nil_of_le h1] at h;cases h
 have e:=List.drop_eq_getElem_cons hl
 rw [h] at e
 injection e with e1 e2
 refine ⟨by rw [look_get hl,← e1],hl,e2.symm,?_⟩
 rw [List.take_succ_eq_append_getElem hl,← e1]
theorem hdue_any (h:HM w B p v m) (now:Nat) :
  Calls Tryz.prog 24 #[.pointer (some ⟨p,0,none⟩),.int .u64 (now:Int)] w fun e w'=>∃ j x v',e = .returned x∧DueAt w B p v m now x j v' w'∧(j < m.length→now < (look m j).time):=by
 obtain ⟨i0,hi0,hz⟩:=Option.map_eq_some_iff.1 item_info
 simp only [Prod.mk.injEq] at hz
 obtain ⟨hz0,hz1,hz2⟩:=hz
 have hlt:=h.lt
 have hfew:=h.few
 have HS:=Lib.hid (show DueAt w B p v m now (.slice none 0 0) 0 v w from ⟨⟨rfl,.inl ⟨rfl,rfl⟩⟩,by omega,fun i hi=>by omega,h,But.refl _ _,rfl⟩)
 clear h
 go_enter Tryz.func24,Tryz.ntmps24
 go_wp2_with fail
 go_loopw [5] (fun x wr=>∃ (j:Nat) (v':Value),DueAt w B p v m now x j v' wr) (fun x _=>m.length - lenOf x)
 case atStart=>exact ⟨0,v,HS.out⟩
 case round =>
  obtain ⟨j,v',hD⟩:=hrel
  obtain ⟨ax,cx,rfl⟩:=own_slice hD.row
  have HD:=Lib.hid hD
  cases hdr:m.drop j with
  | nil =>
   have hm:=hD.heap
   rw [hdr] at hm
   obtain ⟨a,c,k0⟩:=hm.none
   have HDR:=Lib.hid hdr
   clear hD hm hdr
   go_wp2_with fail
   go_ret
   refine ⟨j,_,v',rfl,HD.out,fun hj=>?_⟩
   have:=congrArg List.length HDR.out
   rw [List.length_drop] at this
   simp at this
   omega
  | cons y t =>
   have hm:=hD.heap
   rw [hdr] at hm
   obtain ⟨g,n,c,hv,hn0,hn1,k0,t0,t1⟩:=hm.first
   rw [hv] at k0
   have hld:=look_drop hdr
   have HLD:=Lib.hid hld
   have HDR:=Lib.hid hdr
   by_cases ht:y.time≤now
   ·have HP:=Lib.hid (hpop_yes hm)
    clear hD hm hdr hld hv t1
    go_wp2_with fail
    refine HP.out.mono ?_
    rintro e w2 ⟨rfl,v2,hM,hB,ho⟩
    have ho2:v2.ownBlock=v.ownBlock:=ho.trans HD.out.own
    have hfe:∀ k,Foot p v' k→Foot p v k:=fun k hk=>by
     rcases hk with e|e
     ·exact .inl e
     ·exact .inr (e.trans HD.out.own)
    have hwx:∀ k,(Value.slice ax j cx).ownBlock=some k→¬ Foot p v k:=fun k hk hf=>by
     have hb:=(HD.out.row.lt k hk).1
     rcases hf with e|e
     ·have:=hlt.1;omega
     ·have:=(hlt.2 k e.symm).2.1;omega
    have hr2:=ownsRow_but HD.out.row hB (fun k hk hf=>hwx k hk (hfe k hf))
    have hb2:But (Foot p v) w w2:=HD.out.but.trans hB (fun k _ hf=>hfe k hf)
    obtain ⟨W3,hW3⟩:∃ W3,W3=w2.alloc (.cells #[.int .u64 (y.time:Int),.string y.key] 68):=⟨_,rfl⟩
    have hb3:But (fun _=>False) w2 W3:=by rw [hW3];exact (But.refl _ w2).alloc _
    have hx:=boxed w2 y
    have x0:=hx.1
    have x1:=hx.2
    obtain ⟨W4,hW4⟩:∃ W4,W4=W3.alloc (.cells #[.int .u64 (y.time:Int),.string y.key] 68):=⟨_,rfl⟩
    have hb4:But (fun _=>False) w2 W4:=by rw [hW4];exact hb3.alloc _
    have hs4:Sees W4 2 (.slice (some ⟨w2.heap.size+1,0,none⟩) 1 1) 1 (icells y):=by
     rw [hW4]
     exact sees_item W3 y _ _ _ (by rw [hW3];simp)
    have HS4:=Lib.hid hs4
    have HR4:=Lib.hid (ownsRow_but hr2 hb4 (fun _ _ h=>h))
    have HM4:=Lib.hid (hM.new hb4)
    have HB4:=Lib.hid (hb2.trans hb4 (fun _ _ h=>h.elim))
    have HWX:=Lib.hid hwx
    have HO2:=Lib.hid ho2
    have HW:=Lib.hid (show W4=((w2.alloc (.cells #[.int .u64 (y.time:Int),.string y.key] 68)).alloc (.cells #[.int .u64 (y.time:Int),.string y.key] 68)) by rw [hW4,hW3])
    have hjl:=HLD.out.2.1
    clear hM hB ho hfe hwx hr2 hb2 hb3 hb4 hs4 hx HP hW3 hW4 ho2 k0 t0
    go_wp2_with (at_builtin;change wpList _ _ _ _ _ ((w2.alloc (.cells #[.int .u64 (y.time:Int),.string y.key] 68)).alloc (.cells #[.int .u64 (y.time:Int),.string y.key] 68));rw [← HW.out];refine wpList_append_onto rfl _ _ _ rfl w.heap.size 68 i0 _ 2 24 Tryz.underlying65 hi0 hz0 hz1 hz2 rfl (by omega) (.slice ax j cx) j (rowI (m.take j)) rfl HR4.out (.slice (some ⟨w2.heap.size+1,0,none⟩) 1 1) 1 (icells y) rfl HS4.out (icells_one y) (by unfold maxLen;omega) (by omega) (by have:=HB4.out.size;omega) ?_;intro v5 w5 ho5 hon5)
    rw [rowI_snoc,← HLD.out.2.2.2] at ho5
    obtain ⟨a5,c5,rfl⟩:=own_slice ho5
    have HST:=Lib.hid (show DueAt w B p v m now (.slice a5 (j+1) c5) (j+1) v2 w5 from ⟨ho5,by omega,fun i hi=>by
      by_cases hij:i=j
      ·rw [hij,HLD.out.1];exact ht
      ·exact HD.out.gone i (by omega),
     by
      rw [HLD.out.2.2.1]
      refine HM4.out.but hon5.but (fun e=>HWX.out p e.symm (.inl rfl)) (fun k hk e=>HWX.out k e.symm (.inr (by rw [← HO2.out];exact hk.symm))),
     HB4.out.trans hon5.but (fun k hk e=>by
      have:=(HD.out.row.lt k e.symm).1
      omega),HO2.out⟩)
    clear ho5 hon5 x0 x1
    go_wp2_with fail
    go_roundw
    case rel=>exact ⟨j+1,v2,HST.out⟩
    case measure=>simp [lenOf];omega
   ·clear hD hm hdr hld hv t1
    go_wp2_with fail
    go_ret
    refine ⟨j,_,v',rfl,HD.out,fun hj=>?_⟩
    rw [HLD.out.1]
    omega
end
end Go.Proofs.YtgjofinbdigmcaaGreat.Exp
end
section
namespace Go.Proofs.YtgjofinbdigmcaaGreat.Rgt
structure Tok where
 s:Nat
 r:Int
 k:Nat
structure Ok (x:Tok):Prop where
 s:x.s < 4294967296
 r:1≤x.r∧x.r≤7
 k:x.k < 18446744073709551616
def Ris (T:List Tok):Prop:=T.Pairwise (fun x y=>x.s < y.s)
def look (s:Nat):List Tok→Option Tok
 | []=>none
 | y :: T=>if y.s=s then some y else look s T
def put (x:Tok):List Tok→List Tok
 | []=>[x]
 | y :: T=>if x.s < y.s then x :: y :: T else if x.s=y.s then x :: T else y :: put x T
def del (s:Nat):List Tok→List Tok
 | []=>[]
 | y :: T=>if y.s=s then T else y :: del s T
theorem look_mem {s:Nat} {T:List Tok} {x:Tok} (h:look s T=some x):x ∈ T∧x.s=s:=by
 induction T with
 | nil=>cases h
 | cons y T ih =>
  unfold look at h
  split at h
  ·next e=>injection h with h;subst h;exact ⟨List.mem_cons_self ..,e⟩
  ·exact ⟨List.mem_cons_of_mem _ (ih h).1,(ih h).2⟩
theorem look_less {s:Nat} {T:List Tok} (h:∀ y ∈ T,s < y.s):look s T=none:=by
 induction T with
 | nil=>rfl
 | cons y T ih =>
  have h1:=h y (List.mem_cons_self ..)
  unfold look
  rw [if_neg (by omega)]
  exact ih (fun z hz=>h z (List.mem_cons_of_mem _ hz))
theorem look_none {s:Nat} {T:List Tok} (h:look s T=none):∀ y ∈ T,y.s≠s:=by
 induction T with
 | nil=>intro y hy;cases hy
 | cons y T ih =>
  unfold look at h
  split at h
  ·cases h
  ·next e =>
   intro z hz
   rcases List.mem_cons.1 hz with rfl|hz
   ·exact e
   ·exact ih h z hz
theorem look_put (x:Tok) {T:List Tok} (hT:Ris T) (s:Nat):look s (put x T)=if s=x.s then some x else look s T:=by
 induction T with
 | nil =>
  simp only [put,look]
  by_cases h:s=x.s
  ·rw [if_pos h.symm,if_pos h]
  ·rw [if_neg (fun e=>h e.symm),if_neg h]
 | cons y T ih =>
  have hp:=List.pairwise_cons.1 hT
  unfold put
  split
  ·simp only [look]
   by_cases h:s=x.s
   ·rw [if_pos h.symm,if_pos h]
   ·rw [if_neg (fun e=>h e.symm),if_neg h]
  ·next h1 =>
   split
   ·next h2 =>
    simp only [look]
    by_cases h:s=x.s
    ·rw [if_pos h.symm,if_pos h]
    ·rw [if_neg (fun e=>h e.symm),if_neg h,if_neg (by omega)]
   ·next h2 =>
    simp only [look]
    rw [ih hp.2]
    by_cases h:s=x.s
    ·rw [if_neg (by omega),if_pos h,if_pos h]
    ·rw [if_neg h,if_neg h]
theorem mem_del {s:Nat} {T:List Tok} {y:Tok} (h:y ∈ del s T):y ∈ T:=by
 induction T with
 | nil=>exact h
 | cons z T ih =>
  unfold del at h
  split at h
  ·exact List.mem_cons_of_mem _ h
  ·rcases List.mem_cons.1 h with rfl|h
   ·exact List.mem_cons_self ..
   ·exact List.mem_cons_of_mem _ (ih h)
theorem look_del {T:List Tok} (hT:Ris T) (s x:Nat):look x (del s T)=if x=s then none else look x T:=by
 induction T with
 | nil=>simp [del,look]
 | cons y T ih =>
  have hp:=List.pairwise_cons.1 hT
  unfold del
  split
  ·next h1 =>
   by_cases h:x=s
   ·rw [if_pos h,look_less (fun z hz=>by have:=hp.1 z hz;omega)]
   ·rw [if_neg h]
    simp only [look]
    rw [if_neg (by omega)]
  ·next h1 =>
   simp only [look]
   rw [ih hp.2]
   by_cases h:x=s
   ·rw [if_pos h,if_pos h,if_neg (by omega)]
   ·rw [if_neg h,if_neg h]
theorem mem_put {x y:Tok} {T:List Tok} (h:y ∈ put x T):y=x∨y ∈ T:=by
 induction T with
 | nil=>simpa [put] using h
 | cons z T ih =>
  unfold put at h
  split at h
  ·rcases List.mem_cons.1 h with rfl|h
   ·exact .inl rfl
   ·exact .inr h
  ·split at h
   ·rcases List.mem_cons.1 h with rfl|h
    ·exact .inl rfl
    ·exact .inr (List.mem_cons_of_mem _ h)
   ·rcases List.mem_cons.1 h with rfl|h
    ·exact .inr (List.mem_cons_self ..)
    ·rcases ih h with h|h
     ·exact .inl h
     ·exact .inr (List.mem_cons_of_mem _ h)
theorem Ris.put {T:List Tok} (hT:Ris T) (x:Tok):Ris (put x T):=by
 induction T with
 | nil=>simp [Rgt.put,Ris]
 | cons y T ih =>
  have hp:=List.pairwise_cons.1 hT
  unfold Rgt.put
  split
  ·next h1 =>
   refine List.pairwise_cons.2 ⟨fun z hz=>?_,hT⟩
   rcases List.mem_cons.1 hz with rfl|hz
   ·exact h1
   ·have:=hp.1 z hz;omega
  ·split
   ·next h2=>exact List.pairwise_cons.2 ⟨fun z hz=>by have:=hp.1 z hz;omega,hp.2⟩
   ·next h1 h2 =>
    refine List.pairwise_cons.2 ⟨fun z hz=>?_,ih hp.2⟩
    rcases mem_put hz with rfl|hz
    ·omega
    ·exact hp.1 z hz
theorem Ris.del {T:List Tok} (hT:Ris T) (s:Nat):Ris (del s T):=by
 induction T with
 | nil=>exact hT
 | cons y T ih =>
  have hp:=List.pairwise_cons.1 hT
  unfold Rgt.del
  split
  ·exact hp.2
  ·exact List.pairwise_cons.2 ⟨fun z hz=>hp.1 z (mem_del hz),ih hp.2⟩
theorem len_put (x:Tok) {T:List Tok} (hT:Ris T):(put x T).length=if (look x.s T).isSome then T.length else T.length+1:=by
 induction T with
 | nil=>rfl
 | cons y T ih =>
  have hp:=List.pairwise_cons.1 hT
  unfold put
  split
  ·next h1 =>
   have h2:look x.s (y :: T)=none:=look_less (fun z hz=>by
    rcases List.mem_cons.1 hz with rfl|hz
    ·exact h1
    ·have:=hp.1 z hz;omega)
   rw [h2];rfl
  ·split
   ·next h2=>simp [look,h2]
   ·next h1 h2 =>
    simp only [look,if_neg (fun e:y.s=x.s=>h2 e.symm),List.length_cons,ih hp.2]
    split <;> rfl
theorem len_del (s:Nat) (T:List Tok):(del s T).length+(if (look s T).isSome then 1 else 0)=T.length:=by
 induction T with
 | nil=>rfl
 | cons y T ih =>
  unfold del look
  split
  ·simp
  ·simp only [List.length_cons];omega
def AllOk (T:List Tok):Prop:=∀ x ∈ T,Ok x
theorem AllOk.put {T:List Tok} (h:AllOk T) {x:Tok} (hx:Ok x):AllOk (put x T):=fun y hy=>by
 rcases mem_put hy with rfl|hy
 ·exact hx
 ·exact h y hy
theorem AllOk.del {T:List Tok} (h:AllOk T) (s:Nat):AllOk (del s T):=fun y hy=>h y (mem_del hy)
def putErr (s:Nat) (r:Int) (T:List Tok):Int:=if r < 1∨7 < r then 1 else if look s T=none∧100≤T.length then 13 else 0
def putTo (x:Tok) (T:List Tok):List Tok:=if putErr x.s x.r T=0 then put x T else T
def has (s k:Nat) (T:List Tok):Int:=match look s T with
 | some x=>if x.k=k then x.r else 0
 | none=>0
structure Good (T:List Tok):Prop where
 ris:Ris T
 ok:AllOk T
 len:T.length≤100
theorem Good.nil:Good []:=⟨List.Pairwise.nil,fun x hx=>(by cases hx),(by simp)⟩
theorem Good.putTo {T:List Tok} (h:Good T) {x:Tok} (hs:x.s < 4294967296) (hk:x.k < 18446744073709551616):Good (putTo x T):=by
 unfold Rgt.putTo
 split
 ·next h0 =>
  unfold putErr at h0
  split at h0
  ·cases h0
  ·next hr =>
   split at h0
   ·cases h0
   ·next hl =>
    refine ⟨h.ris.put x,h.ok.put ⟨hs,by omega,hk⟩,?_⟩
    rw [len_put x h.ris]
    have:=h.len
    by_cases hn:look x.s T=none
    ·rw [hn]
     have:¬ 100≤T.length:=fun h1=>hl ⟨hn,h1⟩
     simp;omega
    ·have:(look x.s T).isSome=true:=by cases hq:look x.s T with
      | none=>exact absurd hq hn
      | some y=>rfl
     rw [this];simp;exact h.len
 ·exact h
theorem Good.del {T:List Tok} (h:Good T) (s:Nat):Good (del s T):=⟨h.ris.del s,h.ok.del s,by have:=len_del s T;have:=h.len;omega⟩
end Go.Proofs.YtgjofinbdigmcaaGreat.Rgt
end
section
namespace Go.Proofs.YtgjofinbdigmcaaGreat.Err
open Go.Proofs.YtgjofinbdigmcaaGreat.Mem
open Go.ChangeShapes Go.WideShapes Go.ChangeAt Go.RowKit
def errV (c:Int):Value:=if c=0 then .nilIface else .iface 110 (.int .i64 c)
theorem errV_zero:errV 0 = .nilIface:=rfl
theorem errV_some {c:Int} (h:c≠0):errV c = .iface 110 (.int .i64 c):=if_neg h
end Go.Proofs.YtgjofinbdigmcaaGreat.Err
end
